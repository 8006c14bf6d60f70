/- Closed facts of the program that the row asks for, a part. -/
import Derived.Test.YtfkidblfgdkcdaaGreatDoorRows
import Derived.JoinedOf
import Derived.KernelRfl
import Derived.Test.YtfkidblfgdkcdaaGreatDoorJfa1
import Derived.Test.YtfkidblfgdkcdaaGreatDoorJfa2
import Derived.Test.YtfkidblfgdkcdaaGreatDoorJfa3
import Derived.Test.YtfkidblfgdkcdaaGreatDoorJfa4
namespace Go.Proofs.YtfkidblfgdkcdaaGreatDoor
open Go
set_option linter.unusedVariables false
theorem lo_n : Tryz.pinned.checked.prog.types.size = 754 := by kernel_rfl
theorem lo_g : Tryz.pinned.checked.prog.globals.all (fun g => decide (g.type < Tryz.pinned.checked.prog.types.size)) = true := by kernel_rfl
theorem lo_f : Tryz.pinned.checked.prog.funcs.all (fun f => f.params.all fun t => decide (t < Tryz.pinned.checked.prog.types.size)) = true := by kernel_rfl
theorem lo_all : (List.range Tryz.pinned.checked.prog.types.size).all (rowFine Tryz.pinned.checked.prog) = true := by
  rw [lo_n]
  refine List.all_eq_true.2 fun i hi => ?_
  have hi2 := List.mem_range.1 hi
  by_cases h1 : i < 188
  · exact List.all_eq_true.1 lo_1 i (List.mem_range'_1.2 ⟨by omega, by omega⟩)
  by_cases h2 : i < 377
  · exact List.all_eq_true.1 lo_2 i (List.mem_range'_1.2 ⟨by omega, by omega⟩)
  by_cases h3 : i < 565
  · exact List.all_eq_true.1 lo_3 i (List.mem_range'_1.2 ⟨by omega, by omega⟩)
  · exact List.all_eq_true.1 lo_4 i (List.mem_range'_1.2 ⟨by omega, by omega⟩)
theorem lo_and {a b c : Bool} (h : a = true) (k : b = true) (l : c = true) : (a && b && c) = true := by rw [h, k, l]; rfl
theorem jf_1 : (fun (P : Program) (f : FuncId) (fn : Func) (s : ChangeSpec) (c : OpenClaim) => (laidOutB P : Bool)) Tryz.pinned.checked.prog 3 Tryz.f3 Rows.scriptKnownSpec Rows.scriptKnownRow = true := by
  show laidOutB Tryz.pinned.checked.prog = true
  unfold laidOutB
  exact lo_and lo_all lo_g lo_f
end Go.Proofs.YtfkidblfgdkcdaaGreatDoor
