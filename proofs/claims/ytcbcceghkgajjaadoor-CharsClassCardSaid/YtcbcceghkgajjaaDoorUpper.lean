import Derived.Test.YtcbcceghkgajjaaDoorClass
namespace Go.Proofs.YtcbcceghkgajjaaDoor
open Go.ChangeShapes Go.WideShapes Go.ChangeAt Go.RowKit Go.Shelf Go.Lib CharsMath
set_option maxHeartbeats 400000 in
theorem count_any (s : ByteArray) (w : World) (hs : s.size ≤ maxLen) : Calls Tryd.prog 18 #[.string s] w fun e w' => e = .returned (.int .i64 (runes s)) ∧ Below w.heap.size w w' := by
  unfold maxLen at hs
  go_enter Tryd.func18, Tryd.ntmps18
  go_wp2
  go_loopw [3] (fun n w' => ∃ (pos f N : Nat), w' = w.iter s pos ∧ n = .int .i64 N ∧ N ≤ pos ∧ pos ≤ s.size ∧ Hid (runesGo s f pos N = runes s) ∧ s.size ≤ pos + f) (fun _ w' => s.size - w'.iterPos w.heap.size)
  case atStart => exact ⟨0, s.size, 0, rfl, rfl, by omega, by omega, Lib.hid rfl, by omega⟩
  case round =>
    obtain ⟨pos, f, N, rfl, rfl, hN, hpl, HC, hb⟩ := hrel
    by_cases hp : pos < s.size
    · have hnx : ∀ ty, (Instr.next (.pointer (some ⟨w.heap.size, 0, none⟩)) true ty).run Tryd.prog (w.iter s pos) = _ := fun ty => run_next_any w s pos ty hp
      have hw1 := wd_pos s pos hp
      have hw2 := wd_le s pos hp
      go_wp2
      go_roundw
      case rel =>
        obtain ⟨f, rfl⟩ : ∃ g, f = g + 1 := ⟨f - 1, by omega⟩
        refine ⟨pos + wd s pos, f, N + 1, rfl, by go_num, by omega, by omega, Lib.hid ?_, by omega⟩
        rw [← HC.out]
        simp only [runesGo, if_pos hp]
      case measure =>
        unfold wd at hw1
        simp
        omega
    · have hnx : ∀ ty, (Instr.next (.pointer (some ⟨w.heap.size, 0, none⟩)) true ty).run Tryd.prog (w.iter s pos) = _ := fun ty => run_next_end w s pos ty hp
      go_wp2
      go_ret
      have := HC.out
      rw [runesGo_stop _ _ _ _ hp] at this
      subst this
      exact ⟨rfl, below_iter _ _ _⟩
def upperV (s : ByteArray) : Bool := if 0 < s.size then isUpperU (rn s 0) else false
theorem upper_any (s : ByteArray) (w : World) (hT : Tabs w) : Calls Tryd.prog 13 #[.string s] w fun e w' => e = .returned (.bool (upperV s)) ∧ Below w.heap.size w w' := by
  have HT := Lib.hid hT; clear hT
  by_cases hp : 0 < s.size
  · rw [show upperV s = isUpperU (rn s 0) from if_pos hp]
    have hr := rn_le s 0 hp
    have hnx : ∀ ty, (Instr.next (.pointer (some ⟨w.heap.size, 0, none⟩)) true ty).run Tryd.prog (w.iter s 0) = _ := fun ty => run_next_any w s 0 ty hp
    go_enter Tryd.func13, Tryd.ntmps13
    go_wp2
    refine wp_loop_rounds 1 ?_
    rw [rounds_succ]
    go_wp2_with fail
    refine (Tryd.unicode_IsUpper_all _ _ (by unfold rn at hr; omega) (by unfold rn at hr; omega) (HT.out.below (below_iter _ _ _)).props (HT.out.below (below_iter _ _ _)).upper).mono ?_
    rintro e w2 ⟨rfl, hb2⟩
    go_wp2
    go_ret
    exact ⟨rfl, (below_iter w s _).trans (hb2.mono (below_iter w s _).size)⟩
  · rw [show upperV s = false from if_neg hp]
    have hnx : ∀ ty, (Instr.next (.pointer (some ⟨w.heap.size, 0, none⟩)) true ty).run Tryd.prog (w.iter s 0) = _ := fun ty => run_next_end w s 0 ty hp
    go_enter Tryd.func13, Tryd.ntmps13
    go_wp2
    refine wp_loop_rounds 1 ?_
    rw [rounds_succ]
    go_wp2
    go_ret
    exact ⟨rfl, below_iter _ _ _⟩
theorem rupper_any (s : ByteArray) (w : World) (hT : Tabs w) : Calls Tryd.prog 19 #[.string s] w fun e w' => e = .returned (.bool (upperV s)) ∧ Below w.heap.size w w' := by
  have HT := Lib.hid hT; clear hT
  by_cases hp : 0 < s.size
  · rw [show upperV s = isUpperU (rn s 0) from if_pos hp]
    have hr := rn_le s 0 hp
    have hnx : ∀ ty, (Instr.next (.pointer (some ⟨w.heap.size, 0, none⟩)) true ty).run Tryd.prog (w.iter s 0) = _ := fun ty => run_next_any w s 0 ty hp
    go_enter Tryd.func19, Tryd.ntmps19
    go_wp2
    refine wp_loop_rounds 1 ?_
    rw [rounds_succ]
    go_wp2_with fail
    refine (Tryd.unicode_IsUpper_all _ _ (by unfold rn at hr; omega) (by unfold rn at hr; omega) (HT.out.below (below_iter _ _ _)).props (HT.out.below (below_iter _ _ _)).upper).mono ?_
    rintro e w2 ⟨rfl, hb2⟩
    go_wp2
    go_ret
    exact ⟨rfl, (below_iter w s _).trans (hb2.mono (below_iter w s _).size)⟩
  · rw [show upperV s = false from if_neg hp]
    have hnx : ∀ ty, (Instr.next (.pointer (some ⟨w.heap.size, 0, none⟩)) true ty).run Tryd.prog (w.iter s 0) = _ := fun ty => run_next_end w s 0 ty hp
    go_enter Tryd.func19, Tryd.ntmps19
    go_wp2
    refine wp_loop_rounds 1 ?_
    rw [rounds_succ]
    go_wp2
    go_ret
    exact ⟨rfl, below_iter _ _ _⟩
end Go.Proofs.YtcbcceghkgajjaaDoor
