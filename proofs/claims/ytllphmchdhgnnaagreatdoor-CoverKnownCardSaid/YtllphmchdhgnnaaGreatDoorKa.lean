/- The tables that the program reads, and what is asked of the program once. -/
import Derived.Test.YtllphmchdhgnnaaGreatDoorEp
import Derived.Test.YtllphmchdhgnnaaGreatDoorProg
import Derived.Lib.Props
import Derived.Lib.LaidTab
import Derived.KernelRfl
namespace Go.Proofs.YtllphmchdhgnnaaGreatDoor
open Go
set_option linter.unusedVariables false
noncomputable section
theorem names : namesOk Tryz.prog = true := by kernel_rfl
theorem mixed : Tryz.prog.follows .mixedOrders = true := by kernel_rfl
def propsL : List Value := Lib.propertiesTab.map (Value.int .u8)
def tabs : List (Nat × List Value) := [(0, propsL)]
theorem tabsGood : tabsOk 6 tabs = true := by kernel_rfl
theorem noOrc : OrOk Tryz.prog (cxO Tryz.prog 6 tabs .nil) := fun f l h => by cases h
def a0 : List Value := [.string ⟨#[109, 97, 116, 99, 104, 32, 120, 32, 119, 105, 116, 104, 32, 49, 32, 45, 62, 32, 49, 32, 124, 32, 50, 32, 45, 62, 32, 50, 32, 101, 110, 100]⟩]
def r0 : Value := .tuple #[.int .i64 7, .int .i64 0]
def a1 : List Value := [.string ⟨#[109, 97, 116, 99, 104, 32, 120, 32, 119, 105, 116, 104, 32, 49, 32, 45, 62, 32, 49, 32, 124, 32, 121, 32, 45, 62, 32, 50, 32, 101, 110, 100]⟩]
def r1 : Value := .tuple #[.int .i64 0, .int .i64 0]
def a2 : List Value := [.string ⟨#[109, 97, 116, 99, 104, 32, 120, 32, 119, 105, 116, 104, 32, 40, 41, 32, 45, 62, 32, 49, 32, 101, 110, 100]⟩]
def r2 : Value := .tuple #[.int .i64 0, .int .i64 0]
def a3 : List Value := [.string ⟨#[116, 121, 112, 101, 32, 116, 32, 61, 32, 65, 32, 124, 32, 66, 32, 111, 102, 32, 116, 44, 32, 98, 111, 111, 108, 32, 105, 110, 32, 109, 97, 116, 99, 104, 32, 120, 32, 119, 105, 116, 104, 32, 65, 32, 45, 62, 32, 49, 32, 124, 32, 66, 32, 40, 65, 44, 32, 116, 114, 117, 101, 41, 32, 45, 62, 32, 50, 32, 124, 32, 66, 32, 40, 95, 44, 32, 102, 97, 108, 115, 101, 41, 32, 45, 62, 32, 51, 32, 124, 32, 66, 32, 40, 66, 32, 40, 95, 44, 32, 95, 41, 44, 32, 116, 114, 117, 101, 41, 32, 45, 62, 32, 52, 32, 101, 110, 100]⟩]
def r3 : Value := .tuple #[.int .i64 0, .int .i64 0]
def a4 : List Value := [.string ⟨#[116, 121, 112, 101, 32, 116, 32, 61, 32, 65, 32, 124, 32, 66, 32, 111, 102, 32, 116, 44, 32, 98, 111, 111, 108, 32, 105, 110, 32, 109, 97, 116, 99, 104, 32, 120, 32, 119, 105, 116, 104, 32, 65, 32, 45, 62, 32, 49, 32, 124, 32, 66, 32, 40, 65, 44, 32, 116, 114, 117, 101, 41, 32, 45, 62, 32, 50, 32, 124, 32, 66, 32, 40, 95, 44, 32, 102, 97, 108, 115, 101, 41, 32, 45, 62, 32, 51, 32, 101, 110, 100]⟩]
def r4 : Value := .tuple #[.int .i64 7, .int .i64 0]
def a5 : List Value := [.string ⟨#[49, 32, 43, 32, 40, 109, 97, 116, 99, 104, 32, 120, 32, 119, 105, 116, 104, 32, 116, 114, 117, 101, 32, 45, 62, 32, 109, 97, 116, 99, 104, 32, 121, 32, 119, 105, 116, 104, 32, 49, 32, 45, 62, 32, 50, 32, 101, 110, 100, 32, 124, 32, 102, 97, 108, 115, 101, 32, 45, 62, 32, 51, 32, 101, 110, 100, 41]⟩]
def r5 : Value := .tuple #[.int .i64 7, .int .i64 5]
end
end Go.Proofs.YtllphmchdhgnnaaGreatDoor
