/- The tables that the program reads, and what is asked of the program once. -/
import Derived.Test.YtjlpmhgngcfkcaaGreatDoorEp
import Derived.Test.YtjlpmhgngcfkcaaGreatDoorProg
import Derived.Test.YtjlpmhgngcfkcaaGreatDoorSh
import Derived.Lib.Props
import Derived.Lib.LaidTab
import Derived.Lib.ItoaNum
import Derived.KernelRfl
namespace Go.Proofs.YtjlpmhgngcfkcaaGreatDoor
open Go
set_option linter.unusedVariables false
noncomputable section
theorem names : namesOk Tryz.prog = true := by kernel_rfl
theorem mixed : Tryz.prog.follows .mixedOrders = true := by kernel_rfl
def propsL : List Value := Lib.propertiesTab.map (Value.int .u8)
def pow10L : List Value := Lib.pow10Tab.map (Value.int .u64)
def tabs : List (Nat × List Value) := [(0, propsL), (5, pow10L)]
theorem tabsGood : tabsOk 11 tabs = true := by kernel_rfl
def bwL : List (FuncId × TypeId × TypeId) := [(226, (82, 215)), (169, (2, 0))]
theorem bw226 : BwAt Tryz.prog 226 (82, 215) := .inl ⟨by decide, Tryz.f226, 325, Tryz.func226, by kernel_rfl, by kernel_rfl, rfl, rfl⟩
theorem join169 : JoinAt Tryz.prog 169 := ⟨⟨Tryz.f169, Tryz.func169, by kernel_rfl, by kernel_rfl⟩, fun bk o c xs sep w h1 h2 h3 h4 h5 => Tryz.strings_Join bk o c xs sep w h1 h2 h3 h4 h5⟩
theorem bw169 : BwAt Tryz.prog 169 (2, 0) := .inr ⟨rfl, .inr ⟨rfl, join169⟩⟩
theorem bwGood : ∀ f q, (bwT bwL).get f = some q → BwAt Tryz.prog f q := bwT_ok (List.forall_mem_cons.2 ⟨bw226, List.forall_mem_cons.2 ⟨bw169, fun _ h => by cases h⟩⟩)
end
end Go.Proofs.YtjlpmhgngcfkcaaGreatDoor
