/- The tables that the program reads, and what is asked of the program once. -/
import Derived.Test.YtmikicanjmiigaaGreatDoorEp
import Derived.Test.YtmikicanjmiigaaGreatDoorProg
import Derived.Lib.Props
import Derived.Lib.LaidTab
import Derived.Lib.ItoaNum
import Derived.KernelRfl
namespace Go.Proofs.YtmikicanjmiigaaGreatDoor
open Go
set_option linter.unusedVariables false
noncomputable section
theorem names : namesOk Tryz.prog = true := by kernel_rfl
theorem mixed : Tryz.prog.follows .mixedOrders = true := by kernel_rfl
def propsL : List Value := Lib.propertiesTab.map (Value.int .u8)
def pow10L : List Value := Lib.pow10Tab.map (Value.int .u64)
def tabs : List (Nat × List Value) := [(2, propsL)]
theorem tabsGood : tabsOk 10 tabs = true := by kernel_rfl
def bwL : List (FuncId × TypeId × TypeId) := [(286, (130, 316))]
theorem bw286 : BwAt Tryz.prog 286 (130, 316) := ⟨Tryz.f286, 429, Tryz.func286, by kernel_rfl, by kernel_rfl, rfl, rfl⟩
theorem bwGood : ∀ f q, (bwT bwL).get f = some q → BwAt Tryz.prog f q := bwT_ok (List.forall_mem_cons.2 ⟨bw286, fun _ h => by cases h⟩)
end
end Go.Proofs.YtmikicanjmiigaaGreatDoor
