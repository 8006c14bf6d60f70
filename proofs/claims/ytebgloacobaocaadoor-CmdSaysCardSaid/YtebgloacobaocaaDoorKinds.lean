import Derived.Test.YtebgloacobaocaaDoorWords
namespace Go.Proofs.YtebgloacobaocaaDoor
open Go.ChangeShapes Go.WideShapes Go.ChangeAt Go.RowKit Go.Shelf Go.Lib CharsMath
set_option linter.unusedVariables false
def behind : List Int := [0, 1, 1, 3, 0, 0, 0, 3, 0, 0, 1, 0, 0, 2, 0, 0, 2, 2]
structure KV (w w' : World) (g h : Nat) : Prop where
  below : Below w.heap.size w w'
  words : ∀ i, i < 18 → w'.cell? ⟨g, i, none⟩ = some (.string (verbs.getD i ⟨#[]⟩))
  rest : ∀ i, i < 18 → w'.cell? ⟨h, i, none⟩ = some (.int .i64 (behind.getD i 0))
  gl : g < w'.heap.size
  hl : h < w'.heap.size
theorem cells_at (w : World) (xs : Array Value) (t : TypeId) (i : Nat) : (w.alloc (.cells xs t)).cell? ⟨w.heap.size, i, none⟩ = xs[i]? := by
  have := (MapKept.heap_alloc w (Obj.cells xs t)).1
  unfold World.cell?
  rw [this]
  rfl
theorem cells_at2 (w : World) (xs : Array Value) (t : TypeId) (i b : Nat) (hb : b = w.heap.size) : (w.alloc (.cells xs t)).cell? ⟨b, i, none⟩ = xs[i]? := by
  subst hb; exact cells_at w xs t i
theorem cells_old (w : World) (o : Obj) (g i : Nat) (h : g < w.heap.size) : (w.alloc o).cell? ⟨g, i, none⟩ = w.cell? ⟨g, i, none⟩ := by
  have e : (w.alloc o).heap[g]? = w.heap[g]? := by
    show (w.heap.push o)[g]? = _
    rw [Array.getElem?_push, if_neg (by omega)]
  unfold World.cell?
  rw [e]
theorem alloc_size (W : World) (o : Obj) : (W.alloc o).heap.size = W.heap.size + 1 := by
  show (W.heap.push o).size = _
  simp
set_option maxRecDepth 100000 in
set_option maxHeartbeats 2000000 in
theorem kinds_any (w : World) : Calls Tryd.prog 21 #[] w fun e w' => ∃ g h, e = .returned (.tuple #[.slice (some ⟨g, 0, none⟩) 18 18, .slice (some ⟨h, 0, none⟩) 18 18]) ∧ KV w w' g h := by
  go_enter Tryd.func21, Tryd.ntmps21
  go_wp2_with fail
  go_returns
  refine ⟨w.heap.size, w.heap.size + 1, rfl, ⟨bt (below_alloc _ _) (below_alloc _ _), fun i hi => ?_, fun i hi => ?_, by rw [alloc_size, alloc_size]; omega, by rw [alloc_size, alloc_size]; omega⟩⟩
  · rw [cells_old _ _ _ _ (by rw [alloc_size]; omega), cells_at]
    have hk : i = 0 ∨ i = 1 ∨ i = 2 ∨ i = 3 ∨ i = 4 ∨ i = 5 ∨ i = 6 ∨ i = 7 ∨ i = 8 ∨ i = 9 ∨ i = 10 ∨ i = 11 ∨ i = 12 ∨ i = 13 ∨ i = 14 ∨ i = 15 ∨ i = 16 ∨ i = 17 := by omega
    rcases hk with rfl | rfl | rfl | rfl | rfl | rfl | rfl | rfl | rfl | rfl | rfl | rfl | rfl | rfl | rfl | rfl | rfl | rfl <;> rfl
  · refine (cells_at2 _ _ _ i _ (alloc_size _ _).symm).trans ?_
    have hk : i = 0 ∨ i = 1 ∨ i = 2 ∨ i = 3 ∨ i = 4 ∨ i = 5 ∨ i = 6 ∨ i = 7 ∨ i = 8 ∨ i = 9 ∨ i = 10 ∨ i = 11 ∨ i = 12 ∨ i = 13 ∨ i = 14 ∨ i = 15 ∨ i = 16 ∨ i = 17 := by omega
    rcases hk with rfl | rfl | rfl | rfl | rfl | rfl | rfl | rfl | rfl | rfl | rfl | rfl | rfl | rfl | rfl | rfl | rfl | rfl <;> rfl
end Go.Proofs.YtebgloacobaocaaDoor
