/- Closed facts that the card asks for, a part: no function of the program starts a goroutine. -/
import Derived.Test.YtfkidblfgdkcdaaGreatDoorRows
import Derived.JoinedOf
import Derived.SevenTiedAt
import Derived.KernelRfl
namespace Go.Proofs.YtfkidblfgdkcdaaGreatDoor
open Go
set_option linter.unusedVariables false
theorem go_none : Tryz.pinned.checked.prog.funcs.any Func.goes = false := by kernel_rfl
theorem go_at (g : FuncId) : (Tryz.pinned.checked.prog.funcs[g]?).any Func.goes = false := by
  cases h : Tryz.pinned.checked.prog.funcs[g]? with
  | none => rfl
  | some fn =>
    have h1 := go_none
    rw [Array.any_eq_false] at h1
    obtain ⟨hi, rfl⟩ := Array.getElem?_eq_some_iff.1 h
    have := h1 g hi
    simpa using this
theorem go_goes (f : FuncId) : Tryz.pinned.checked.prog.goes f = false := by
  unfold Program.goes
  rw [go_none, Bool.and_false, Bool.or_false]
  rw [show (fun g => (Tryz.pinned.checked.prog.funcs[g]?).any Func.goes) = fun _ => false from funext go_at]
  simp
theorem pw_goes : false = Rows.scriptKnownRow.goesBy Tryz.pinned.checked.prog := by
  unfold OpenClaim.goesBy Program.goesAt Program.goesFrom
  rw [show (Tryz.pinned.checked.prog.goes) = fun _ => false from funext go_goes]
  cases Tryz.pinned.checked.prog.funcNamed Rows.scriptKnownRow.func <;> rfl
end Go.Proofs.YtfkidblfgdkcdaaGreatDoor
