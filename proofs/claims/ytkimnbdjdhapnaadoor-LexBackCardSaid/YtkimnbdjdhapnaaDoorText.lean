import Derived.Test.YtkimnbdjdhapnaaDoorSmall
import Derived.Lib.OthersKept
namespace Go.Proofs.YtkimnbdjdhapnaaDoor
open Go.ChangeShapes Go.WideShapes Go.ChangeAt Go.RowKit Go.Shelf Go.Lib CharsMath
set_option linter.unusedVariables false
/-- the walk over s stands at pos. -/
def It (w wr : World) (s : ByteArray) (pos : Nat) : Prop := Below w.heap.size w wr ∧ wr.heap[w.heap.size]? = some (.stringIter s pos)
theorem It.start (w : World) (s : ByteArray) : It w (w.iter s 0) s 0 := ⟨below_iter w s 0, World.iter_heap w s 0⟩
theorem It.step {w wr w' : World} {s : ByteArray} {pos : Nat} (p' : Nat) (h : It w wr s pos) (hb : Below (wr.iterAt w.heap.size s p').heap.size (wr.iterAt w.heap.size s p') w') : It w w' s p' := by
  have hlt : w.heap.size < wr.heap.size := (Array.getElem?_eq_some_iff.1 h.2).1
  have b1 := below_iterAt h.1 (Nat.le_refl _) s p'
  refine ⟨b1.trans (hb.mono b1.size), (hb.block _ (by rw [iterAt_size]; exact hlt)).trans (iterAt_heap wr _ s pos p' h.2)⟩
theorem It.move {w wr : World} {s : ByteArray} {pos : Nat} (p' : Nat) (h : It w wr s pos) : It w (wr.iterAt w.heap.size s p') s p' := h.step p' (Below.refl _ _)
theorem It.same {w wr w' : World} {s : ByteArray} {pos : Nat} (h : It w wr s pos) (hb : Below wr.heap.size wr w') : It w w' s pos := by
  have hlt : w.heap.size < wr.heap.size := (Array.getElem?_eq_some_iff.1 h.2).1
  exact ⟨h.1.trans (hb.mono h.1.size), (hb.block _ hlt).trans h.2⟩
end Go.Proofs.YtkimnbdjdhapnaaDoor
