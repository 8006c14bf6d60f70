import Derived.Test.YtebgloacobaocaaDoorText
namespace Go.Proofs.YtebgloacobaocaaDoor
open Go.ChangeShapes Go.WideShapes Go.ChangeAt Go.RowKit Go.Shelf Go.Lib CharsMath
set_option linter.unusedVariables false
def firstV (s : ByteArray) : Nat × Nat := if 0 < s.size then (rn s 0, wd s 0) else (0, 0)
set_option maxRecDepth 100000 in
theorem first_any (s : ByteArray) (w : World) (hs : s.size ≤ maxLen) : Calls Tryd.prog 29 #[.string s] w fun e w' => e = .returned (.tuple #[.int .i32 (firstV s).1, .int .i64 (firstV s).2]) ∧ Below w.heap.size w w' := by
  unfold maxLen at hs
  by_cases hp : 0 < s.size
  · rw [show firstV s = (rn s 0, wd s 0) from if_pos hp]
    have hr := rn_le s 0 hp
    have hw1 := wd_pos s 0 hp
    have hw2 := wd_le s 0 hp
    have hnx : ∀ ty, (Instr.next (.pointer (some ⟨w.heap.size, 0, none⟩)) true ty).run Tryd.prog (w.iter s 0) = _ := fun ty => run_next_any w s 0 ty hp
    obtain ⟨r, hrr⟩ : ∃ r, r = (Utf8.decode s 0).1 := ⟨_, rfl⟩
    obtain ⟨p2, hp2⟩ : ∃ p2, p2 = 0 + (Utf8.decode s 0).2 := ⟨_, rfl⟩
    have er : rn s 0 = r := hrr.symm
    have ep : wd s 0 = p2 := by rw [hp2]; simp [wd]
    rw [← hrr, ← hp2] at hnx
    rw [er, ep]
    rw [er] at hr
    rw [ep] at hw1 hw2
    clear hrr hp2 er ep
    by_cases h2 : p2 < s.size
    · have hnx2 : ∀ ty, (Instr.next (.pointer (some ⟨w.heap.size, 0, none⟩)) true ty).run Tryd.prog (w.iter s p2) = _ := fun ty => run_next_any w s p2 ty h2
      have hr2 := rn_le s p2 h2
      obtain ⟨r2, hrr2⟩ : ∃ r2, r2 = (Utf8.decode s p2).1 := ⟨_, rfl⟩
      obtain ⟨p3, hp3⟩ : ∃ p3, p3 = p2 + (Utf8.decode s p2).2 := ⟨_, rfl⟩
      rw [← hrr2, ← hp3] at hnx2
      clear hrr2 hp3
      go_enter Tryd.func29, Tryd.ntmps29
      go_wp2
      refine wp_loop_rounds 2 ?_
      rw [rounds_succ]
      go_wp2_with fail
      rw [rounds_succ]
      go_wp2_with fail
      go_returns
      exact ⟨rfl, below_iter _ _ _⟩
    · have hnx2 : ∀ ty, (Instr.next (.pointer (some ⟨w.heap.size, 0, none⟩)) true ty).run Tryd.prog (w.iter s p2) = _ := fun ty => run_next_end w s p2 ty h2
      have e2 : Hid (p2 = s.size) := Lib.hid (by omega)
      go_enter Tryd.func29, Tryd.ntmps29
      go_wp2
      refine wp_loop_rounds 2 ?_
      rw [rounds_succ]
      go_wp2_with fail
      rw [rounds_succ]
      go_wp2_with fail
      go_returns
      exact ⟨by rw [e2.out]; rfl, below_iter _ _ _⟩
  · rw [show firstV s = (0, 0) from if_neg hp]
    have hnx : ∀ ty, (Instr.next (.pointer (some ⟨w.heap.size, 0, none⟩)) true ty).run Tryd.prog (w.iter s 0) = _ := fun ty => run_next_end w s 0 ty hp
    have e0 : s.size = 0 := by omega
    go_enter Tryd.func29, Tryd.ntmps29
    go_wp2
    refine wp_loop_rounds 1 ?_
    rw [rounds_succ]
    go_wp2
    go_returns
    exact ⟨rfl, below_iter _ _ _⟩
end Go.Proofs.YtebgloacobaocaaDoor
