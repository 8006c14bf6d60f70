import Derived.Shelf.Strconv.Itoa3
import Derived.Shelf.Strconv.Itoa2
import Derived.Shelf.Strconv.Itoa1
import Derived.Shelf.Strconv.Itoa0
import Derived.Shelf.LaysM
import Derived.Lib.ItoaNum
import Derived.Lib.AppendStr
import Derived.Test.YtifopogkbjhkjaaGreatDoorVt
import Derived.Test.YtifopogkbjhkjaaGreatDoorDr
namespace Go.Proofs.YtifopogkbjhkjaaGreatDoor
open DR
open Go.ChangeShapes Go.WideShapes Go.ChangeAt Go.RowKit Go.WideMaps
set_option linter.unusedVariables false
set_option linter.unusedSimpArgs false
theorem cells4 {w : World} {R : Nat} {y0 y1 y2 y3 : Value} {t : TypeId} {fr : Nat × Nat} (h : w.heap[R]? = some (.cells #[y0, y1, y2, y3] t fr)) : w.cell? ⟨R, 0, none⟩ = some y0 ∧ w.cell? ⟨R, 1, none⟩ = some y1 ∧ w.cell? ⟨R, 2, none⟩ = some y2 ∧ w.cell? ⟨R, 3, none⟩ = some y3 := by
  refine ⟨?_, ?_, ?_, ?_⟩ <;> simp [World.cell?, h]
theorem froz4 {w : World} {R : Nat} {y0 y1 y2 y3 : Value} {t : TypeId} (h : w.heap[R]? = some (.cells #[y0, y1, y2, y3] t (0, 0))) : w.frozen? ⟨R, 0, none⟩ = false ∧ w.frozen? ⟨R, 1, none⟩ = false ∧ w.frozen? ⟨R, 2, none⟩ = false ∧ w.frozen? ⟨R, 3, none⟩ = false := by
  refine ⟨?_, ?_, ?_, ?_⟩ <;> simp [World.frozen?, h]
theorem set_last {w : World} {R : Nat} {y0 y1 y2 y3 : Value} {t : TypeId} (v : Value) (h : w.heap[R]? = some (.cells #[y0, y1, y2, y3] t (0, 0))) : (w.setCell ⟨R, 3, none⟩ v).heap[R]? = some (.cells #[y0, y1, y2, v] t (0, 0)) := by simp [World.setCell, Array.getElem?_modify, h]
theorem frm4 (w : World) (R : Nat) (a b c d : Value) : Frm w ((((w.setCell ⟨R, 0, none⟩ a).setCell ⟨R, 1, none⟩ b).setCell ⟨R, 2, none⟩ c).setCell ⟨R, 3, none⟩ d) (· = R) :=
  (frm_set (R := (· = R)) 0 a rfl).trans ((frm_set (R := (· = R)) 1 b rfl).trans ((frm_set (R := (· = R)) 2 c rfl).trans (frm_set (R := (· = R)) 3 d rfl)))
theorem cells_all {w : World} {R : Nat} {y0 y1 y2 y3 : Value} {t : TypeId} (a b c d : Value) (h : w.heap[R]? = some (.cells #[y0, y1, y2, y3] t (0, 0))) : ((((w.setCell ⟨R, 0, none⟩ a).setCell ⟨R, 1, none⟩ b).setCell ⟨R, 2, none⟩ c).setCell ⟨R, 3, none⟩ d).heap[R]? = some (.cells #[a, b, c, d] t (0, 0)) := by simp [World.setCell, Array.getElem?_modify, h]
end Go.Proofs.YtifopogkbjhkjaaGreatDoor
