import Derived.Test.YtclilpabdcdeoaaDoorWk
import Derived.BigQuiet
namespace Go.Proofs.YtclilpabdcdeoaaDoor
open Go.ChangeShapes Go.WideShapes Go.ChangeAt Go.RowKit
set_option linter.unusedVariables false
theorem BN (B : Nat) (w : World) (n : Nat) : Below B w (w.drewN n) := by rw [← World.drewN_zero w]; simp [World.drewN]; exact ⟨rfl, rfl, rfl, Nat.le_refl _, fun _ _ => rfl⟩
set_option maxRecDepth 100000 in
set_option maxHeartbeats 4000000 in
theorem copied_any (k : Int) (lb : Nat) (w : World) : Calls Tryd.prog 30 #[num 1 k, .pointer (some ⟨lb, 0, none⟩)] w fun e w' => e = .returned (num 1 k) ∧ Below w.heap.size w w' := by
  unfold num
  go_enter Tryd.func30, Tryd.ntmps30
  go_wp2
  go_quiet (fail)
  go_wp2
  go_returns
  refine ⟨rfl, ?_⟩
  have s0 := ((Below.refl w.heap.size w).alloc (Nat.le_refl _) (.cells #[.int .i64 1, .int .i64 k, .string .empty, .slice none 0 0, .int .i64 0, .pointer none, .int .i64 0] 26)).alloc (by simp) (.cells #[.int .i64 0, .int .i64 0, .string ⟨#[]⟩, .slice none 0 0, .int .i64 0, .pointer none, .int .i64 0] 26)
  have s1 := s0.trans (BN _ _ nq)
  exact (((((((s1.setCell (p := ⟨w.heap.size + 1, 0, none⟩) (by simp) _).setCell (p := ⟨w.heap.size + 1, 1, none⟩) (by simp) _).setCell (p := ⟨w.heap.size + 1, 2, none⟩) (by simp) _).setCell (p := ⟨w.heap.size + 1, 3, none⟩) (by simp) _).setCell (p := ⟨w.heap.size + 1, 4, none⟩) (by simp) _).setCell (p := ⟨w.heap.size + 1, 5, none⟩) (by simp) _).setCell (p := ⟨w.heap.size + 1, 6, none⟩) (by simp) _)
end Go.Proofs.YtclilpabdcdeoaaDoor
