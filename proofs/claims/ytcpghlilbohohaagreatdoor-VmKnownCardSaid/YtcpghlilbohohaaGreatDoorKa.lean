/- The tables that the program reads, and what is asked of the program once. -/
import Derived.Test.YtcpghlilbohohaaGreatDoorEp
import Derived.Test.YtcpghlilbohohaaGreatDoorProg
import Derived.Lib.Props
import Derived.Lib.LaidTab
import Derived.Lib.ItoaNum
import Derived.KernelRfl
namespace Go.Proofs.YtcpghlilbohohaaGreatDoor
open Go
set_option linter.unusedVariables false
noncomputable section
theorem names : namesOk Tryz.prog = true := by kernel_rfl
theorem mixed : Tryz.prog.follows .mixedOrders = true := by kernel_rfl
def propsL : List Value := Lib.propertiesTab.map (Value.int .u8)
def pow10L : List Value := Lib.pow10Tab.map (Value.int .u64)
def tabs : List (Nat × List Value) := [(2, propsL)]
theorem tabsGood : tabsOk 10 tabs = true := by kernel_rfl
def bwL : List (FuncId × TypeId × TypeId) := [(253, (146, 301))]
theorem bw253 : BwAt Tryz.prog 253 (146, 301) := ⟨Tryz.f253, 384, Tryz.func253, by kernel_rfl, by kernel_rfl, rfl, rfl⟩
theorem bwGood : ∀ f q, (bwT bwL).get f = some q → BwAt Tryz.prog f q := bwT_ok (List.forall_mem_cons.2 ⟨bw253, fun _ h => by cases h⟩)
end
end Go.Proofs.YtcpghlilbohohaaGreatDoor
