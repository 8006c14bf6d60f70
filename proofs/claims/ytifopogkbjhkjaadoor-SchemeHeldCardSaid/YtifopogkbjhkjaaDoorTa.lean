import Derived.Test.YtifopogkbjhkjaaDoorTz
namespace Go.Proofs.YtifopogkbjhkjaaDoor
open Go.ChangeShapes Go.WideShapes Go.ChangeAt Go.RowKit Go.WideMaps
set_option linter.unusedVariables false
set_option linter.unusedSimpArgs false
theorem drew_heap (w : World) : w.drew.heap = w.heap := rfl
set_option maxRecDepth 100000 in
set_option maxHeartbeats 2000000 in
theorem fresh_any {w : World} {sb : Nat} {n m : Int} (h0 : 0 ≤ n) (h1 : n ≤ 1999) (hm : m = min (n + 1) 1999) (hs : SubE w sb n) : Calls Tryd.prog 11 #[.pointer (some ⟨sb, 0, none⟩)] w fun e w' => e = .returned (tv (varT n) none 0) ∧ SubE w' sb m ∧ Below sb w w' := by
  have hlt := hs.lt
  have FIN : ∀ q : Int, (∀ X Y : Obj, ∃ wf, wf = ((w.setCell ⟨sb, 0, none⟩ (.int .i64 q)).alloc X).alloc Y ∧ SubE wf sb q ∧ Below sb w wf ∧ wf.heap[w.heap.size]? = some X) := fun q X Y => by
    refine ⟨_, rfl, ?_, ?_, ?_⟩
    · have hq : SubE (w.setCell ⟨sb, 0, none⟩ (.int .i64 q)) sb q := by unfold SubE at hs ⊢; simp [World.setCell, Array.getElem?_modify, hs]
      exact (hq.below (below_alloc _ _)).below (below_alloc _ _)
    · exact ((((Below.refl sb w).setCell (Nat.le_refl _) _)).alloc (by simp [World.setCell]; omega) _).alloc (by simp [World.setCell]; omega) _
    · have := (two_box (w := w.setCell ⟨sb, 0, none⟩ (.int .i64 q)) X Y).1
      rw [show (w.setCell ⟨sb, 0, none⟩ (.int .i64 q)).heap.size = w.heap.size by simp [World.setCell]] at this
      exact this
  have ws : IntKind.i64.wrap (n + 1) = n + 1 := IntWalk.i64_in _ (by omega)
  have hA := hs.below (below_alloc w (.cells #[.int .i64 0, .string ⟨#[]⟩, .int .i64 0, .slice none 0 0] 24))
  obtain ⟨a0, a1, a2⟩ := hA.cells
  have hB := hA.below (below_alloc _ (.cells #[.int .i64 7, .string ⟨#[]⟩, .int .i64 n, .slice none 0 0] 24))
  obtain ⟨b0, b1, b2⟩ := hB.cells
  go_enter Tryd.func11, Tryd.ntmps11
  go_wp2
  all_goals
    (try simp only [Exit.inBlock, Exit.then])
  · obtain ⟨wf, hwf, f1, f2, f3⟩ := FIN 1999 (.cells #[.int .i64 7, .string ⟨#[]⟩, .int .i64 n, .slice none 0 0] 24) (.cells #[.int .i64 7, .string ⟨#[]⟩, .int .i64 n, .slice none 0 0] 24)
    rw [← hwf]
    obtain ⟨⟨t0, t1, t2, t3⟩, -⟩ := zero_cells f3
    refine bodyPost_ret (by simp [results, Tryd.results11, go_sem, t0, t1, t2, t3]; try rfl) rfl ?_
    refine ⟨rfl, ?_, f2⟩
    first | exact (show (1999 : Int) = min (n + 1) 1999 by omega) ▸ f1 | exact (show n + 1 = min (n + 1) 1999 by omega) ▸ f1
  · obtain ⟨wf, hwf, f1, f2, f3⟩ := FIN (n + 1) (.cells #[.int .i64 7, .string ⟨#[]⟩, .int .i64 n, .slice none 0 0] 24) (.cells #[.int .i64 7, .string ⟨#[]⟩, .int .i64 n, .slice none 0 0] 24)
    rw [← hwf]
    obtain ⟨⟨t0, t1, t2, t3⟩, -⟩ := zero_cells f3
    refine bodyPost_ret (by simp [results, Tryd.results11, go_sem, t0, t1, t2, t3]; try rfl) rfl ?_
    refine ⟨rfl, ?_, f2⟩
    first | exact (show (1999 : Int) = min (n + 1) 1999 by omega) ▸ f1 | exact (show n + 1 = min (n + 1) 1999 by omega) ▸ f1
end Go.Proofs.YtifopogkbjhkjaaDoor
