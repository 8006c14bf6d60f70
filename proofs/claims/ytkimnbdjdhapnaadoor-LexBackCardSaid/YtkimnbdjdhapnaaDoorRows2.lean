import Derived.Test.YtkimnbdjdhapnaaDoorAwak
import Derived.BigQuiet
namespace Go.Proofs.YtkimnbdjdhapnaaDoor
open Go.ChangeShapes Go.WideShapes Go.ChangeAt Go.RowKit Go.Shelf Go.Lib CharsMath
set_option linter.unusedVariables false
theorem bD {n : Nat} {w a : World} (h : Below n w a) : Below n w a.drew := h.trans ⟨rfl, rfl, rfl, Nat.le_refl _, fun _ _ => rfl⟩
def tok0 : Tok := (0, ⟨#[]⟩, 0, 0)
theorem toksC_get : ∀ (l : List Tok) (i j : Nat), i < l.length → j < 4 → (toksC l).getD (i * 4 + j) undef = (cellsT (l.getD i tok0)).getD j undef := by
  intro l
  induction l with
  | nil => intro i j h; simp at h
  | cons x l ih =>
    intro i j hi hj
    have e : toksC (x :: l) = cellsT x ++ toksC l := rfl
    have z : (cellsT x).length = 4 := rfl
    rw [e]
    cases i with
    | zero =>
      rw [Nat.zero_mul, Nat.zero_add, List.getD_eq_getElem?_getD, List.getElem?_append_left (by omega)]
      rw [← List.getD_eq_getElem?_getD]; rfl
    | succ i =>
      have := ih i j (by simp at hi; omega) hj
      rw [List.getD_eq_getElem?_getD, List.getElem?_append_right (by omega), z, show (i + 1) * 4 + j - 4 = i * 4 + j by omega, ← List.getD_eq_getElem?_getD, this]
      rfl
/-- the i-th word's four cells. -/
theorem RowAt.tok {w : World} {g : Nat} {l : List Tok} (h : RowAt w g l) {i : Nat} (hi : i < l.length) {k : Int} {y : ByteArray} {a b : Nat} (hx : l.getD i tok0 = (k, y, a, b)) :
    w.cell? ⟨g, i * 4, none⟩ = some (.int .i64 k) ∧ w.cell? ⟨g, i * 4 + 1, none⟩ = some (.string y) ∧ w.cell? ⟨g, i * 4 + 2, none⟩ = some (.int .i64 a) ∧ w.cell? ⟨g, i * 4 + 3, none⟩ = some (.int .i64 b) := by
  have h0 := h (i * 4 + 0) (by omega)
  have h1 := h (i * 4 + 1) (by omega)
  have h2 := h (i * 4 + 2) (by omega)
  have h3 := h (i * 4 + 3) (by omega)
  rw [toksC_get l i _ hi (by omega), hx] at h0 h1 h2 h3
  exact ⟨h0, h1, h2, h3⟩
theorem Toks.get {s : ByteArray} {p q : Nat} {l : List Tok} (h : Toks s p l q) {i : Nat} (hi : i < l.length) : TokOK s 0 (l.getD i tok0) := by
  refine h.all _ ?_
  rw [List.getD_eq_getElem?_getD, List.getElem?_eq_getElem hi]
  exact List.getElem_mem hi
theorem box4 (w : World) (a b c d : Value) (t : TypeId) : (w.alloc (.cells #[a, b, c, d] t)).cell? ⟨w.heap.size, 0, none⟩ = some a ∧ (w.alloc (.cells #[a, b, c, d] t)).cell? ⟨w.heap.size, 1, none⟩ = some b ∧ (w.alloc (.cells #[a, b, c, d] t)).cell? ⟨w.heap.size, 2, none⟩ = some c ∧ (w.alloc (.cells #[a, b, c, d] t)).cell? ⟨w.heap.size, 3, none⟩ = some d := by
  have := (MapKept.heap_alloc w (Obj.cells #[a, b, c, d] t)).1
  refine ⟨?_, ?_, ?_, ?_⟩ <;> (unfold World.cell?; rw [this]; rfl)
theorem isEmpty_of (s : ByteArray) (h : 0 < s.size) : s.toList.isEmpty = false := by
  rw [toListD]
  cases hl : s.data.toList with
  | nil =>
    have : s.data.toList.length = s.size := by rw [Array.length_toList]; rfl
    rw [hl] at this; simp at this; omega
  | cons x l => rfl
theorem beq_nil_of (s : ByteArray) (h : 0 < s.size) : (s.toList == []) = false := by
  have := isEmpty_of s h
  cases hl : s.toList with
  | nil => rw [hl] at this; cases this
  | cons x l => rfl
end Go.Proofs.YtkimnbdjdhapnaaDoor
