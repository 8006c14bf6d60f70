/- The tables that the program reads, and what is asked of the program once. -/
import Derived.Test.YtfkidblfgdkcdaaGreatDoorEp
import Derived.Test.YtfkidblfgdkcdaaGreatDoorProg
import Derived.Test.YtfkidblfgdkcdaaGreatDoorSh
import Derived.Lib.Props
import Derived.Lib.LaidTab
import Derived.Lib.ItoaNum
import Derived.KernelRfl
namespace Go.Proofs.YtfkidblfgdkcdaaGreatDoor
open Go
set_option linter.unusedVariables false
noncomputable section
theorem names : namesOk Tryz.prog = true := by kernel_rfl
theorem mixed : Tryz.prog.follows .mixedOrders = true := by kernel_rfl
def propsL : List Value := Lib.propertiesTab.map (Value.int .u8)
def pow10L : List Value := Lib.pow10Tab.map (Value.int .u64)
def tabs : List (Nat × List Value) := [(1, propsL), (5, pow10L)]
theorem tabsGood : tabsOk 11 tabs = true := by kernel_rfl
def bwL : List (FuncId × TypeId × TypeId) := [(291, (137, 341)), (525, (43, 2)), (553, (384, 399)), (44, (0, 0)), (241, (1, 0)), (57, (207, 0)), (478, (2, 0)), (346, (14, 0))]
theorem bw291 : BwAt Tryz.prog 291 (137, 341) := .inl ⟨by decide, Tryz.f291, 490, Tryz.func291, by kernel_rfl, by kernel_rfl, rfl, rfl⟩
theorem bw525 : BwAt Tryz.prog 525 (43, 2) := .inl ⟨by decide, Tryz.f525, 689, Tryz.func525, by kernel_rfl, by kernel_rfl, rfl, rfl⟩
theorem bw553 : BwAt Tryz.prog 553 (384, 399) := .inl ⟨by decide, Tryz.f553, 719, Tryz.func553, by kernel_rfl, by kernel_rfl, rfl, rfl⟩
theorem bw44 : BwAt Tryz.prog 44 (0, 0) := .inr ⟨rfl, .inl ⟨by decide, Tryz.f44, Extern.BytealgCount.count, Tryz.func44, by kernel_rfl, by kernel_rfl, by kernel_rfl, by kernel_rfl, rfl⟩⟩
theorem bw241 : BwAt Tryz.prog 241 (1, 0) := .inr ⟨rfl, .inl ⟨by decide, Tryz.f241, Extern.BytealgIndexByte.indexByte, Tryz.func241, by kernel_rfl, by kernel_rfl, by kernel_rfl, by kernel_rfl, rfl⟩⟩
theorem copy57 : CopyAt Tryz.prog 57 102 := ⟨⟨Tryz.f57, Tryz.func57, by kernel_rfl, by kernel_rfl⟩, fun b w h1 h2 h3 => Any.Builder_copyCheck_fresh { Tryz.lays156 with } Tryz.Builder_Extra_156.toX72 b w h1 h2 h3, fun b w h1 => (Any.Builder_copyCheck_used { Tryz.lays156 with } Tryz.Builder_Extra_156.toX72 b w h1).mono fun e w2 h => ⟨h.1, h.2⟩⟩
theorem bw57 : BwAt Tryz.prog 57 (207, 0) := .inr ⟨rfl, .inr (.inr (.inl ⟨102, rfl, copy57⟩))⟩
theorem join478 : JoinAt Tryz.prog 478 := ⟨⟨Tryz.f478, Tryz.func478, by kernel_rfl, by kernel_rfl⟩, fun bk o c xs sep w h1 h2 h3 h4 h5 => Tryz.strings_Join bk o c xs sep w h1 h2 h3 h4 h5⟩
theorem bw478 : BwAt Tryz.prog 478 (2, 0) := .inr ⟨rfl, .inr (.inl ⟨rfl, join478⟩)⟩
theorem bw346 : BwAt Tryz.prog 346 (14, 0) := .inr ⟨rfl, .inr (.inr (.inr ⟨5, rfl, Tryz.f346, #[3], 60, Tryz.func346, by kernel_rfl, by kernel_rfl, by kernel_rfl, by kernel_rfl, Tryz.underlying60⟩))⟩
theorem bwGood : ∀ f q, (bwT bwL).get f = some q → BwAt Tryz.prog f q := bwT_ok (List.forall_mem_cons.2 ⟨bw291, List.forall_mem_cons.2 ⟨bw525, List.forall_mem_cons.2 ⟨bw553, List.forall_mem_cons.2 ⟨bw44, List.forall_mem_cons.2 ⟨bw241, List.forall_mem_cons.2 ⟨bw57, List.forall_mem_cons.2 ⟨bw478, List.forall_mem_cons.2 ⟨bw346, fun _ h => by cases h⟩⟩⟩⟩⟩⟩⟩⟩)
end
end Go.Proofs.YtfkidblfgdkcdaaGreatDoor
