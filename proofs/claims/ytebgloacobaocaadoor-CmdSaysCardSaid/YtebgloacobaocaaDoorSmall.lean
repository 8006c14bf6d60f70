import Derived.Test.YtebgloacobaocaaDoorVerb
namespace Go.Proofs.YtebgloacobaocaaDoor
open Go.ChangeShapes Go.WideShapes Go.ChangeAt Go.RowKit Go.Shelf Go.Lib CharsMath
set_option linter.unusedVariables false
def numberedV (k : Int) : Bool := k == 1 || k == 2 || k == 3 || k == 7 || k == 10
set_option maxRecDepth 100000 in
theorem numbered_any (k : Int) (w : World) : Calls Tryd.prog 15 #[.int .i64 k] w fun e w' => e = .returned (.bool (numberedV k)) ∧ w = w' := by
  by_cases h : k = 1 ∨ k = 2 ∨ k = 3 ∨ k = 7 ∨ k = 10
  · rcases h with rfl | rfl | rfl | rfl | rfl
    all_goals (
      go_enter Tryd.func15, Tryd.ntmps15
      go_wp2
      go_ret
      exact ⟨rfl, rfl⟩)
  · have e1 := ne_b (show k ≠ 1 by omega); have e2 := ne_b (show k ≠ 2 by omega); have e3 := ne_b (show k ≠ 3 by omega); have e4 := ne_b (show k ≠ 7 by omega); have e5 := ne_b (show k ≠ 10 by omega)
    rw [show numberedV k = false by unfold numberedV; rw [e1, e2, e3, e4, e5]; rfl]
    clear h
    go_enter Tryd.func15, Tryd.ntmps15
    go_wp2
    go_ret
    exact ⟨rfl, rfl⟩
def namedV (k : Int) : Bool := k == 13 || k == 16 || k == 17
set_option maxRecDepth 100000 in
theorem named_any (k : Int) (w : World) : Calls Tryd.prog 16 #[.int .i64 k] w fun e w' => e = .returned (.bool (namedV k)) ∧ w = w' := by
  by_cases h : k = 13 ∨ k = 16 ∨ k = 17
  · rcases h with rfl | rfl | rfl
    all_goals (
      go_enter Tryd.func16, Tryd.ntmps16
      go_wp2
      go_ret
      exact ⟨rfl, rfl⟩)
  · have e1 := ne_b (show k ≠ 13 by omega); have e2 := ne_b (show k ≠ 16 by omega); have e3 := ne_b (show k ≠ 17 by omega)
    rw [show namedV k = false by unfold namedV; rw [e1, e2, e3]; rfl]
    clear h
    go_enter Tryd.func16, Tryd.ntmps16
    go_wp2
    go_ret
    exact ⟨rfl, rfl⟩
def startsV (r : Int) : Bool := r != 39 && classV r == 1
set_option maxRecDepth 100000 in
theorem starts_any (r : Int) (w : World) (hlo : -2147483648 ≤ r) (hhi : r ≤ 2147483647) (hT : Tabs w) :
    Calls Tryd.prog 42 #[.int .i32 r] w fun e w' => e = .returned (.bool (startsV r)) ∧ Below w.heap.size w w' := by
  have C := Lib.hid (class_any r w hlo hhi hT)
  clear hT
  by_cases h : r = 39
  · subst h
    rw [show startsV 39 = false from rfl]
    go_enter Tryd.func42, Tryd.ntmps42
    go_wp2
    go_ret
    exact ⟨rfl, Below.refl _ _⟩
  · have e1 := ne_b h
    have e2 : (r != 39) = true := by simp [bne, e1]
    rw [show startsV r = (classV r == 1) by unfold startsV; rw [e2]; rfl]
    obtain ⟨c, hc⟩ : ∃ c, c = classV r := ⟨_, rfl⟩
    rw [← hc] at C ⊢
    clear hc h
    go_enter Tryd.func42, Tryd.ntmps42
    go_wp2_with fail
    refine C.out.mono ?_; rintro e w1 ⟨rfl, hb1⟩
    have HB := Lib.hid hb1; clear hb1
    go_wp2
    go_ret
    exact ⟨rfl, HB.out⟩
def goesV (r : Int) : Bool := classV r == 1 || classV r == 2
set_option maxRecDepth 100000 in
theorem goes_any (r : Int) (w : World) (hlo : -2147483648 ≤ r) (hhi : r ≤ 2147483647) (hT : Tabs w) :
    Calls Tryd.prog 43 #[.int .i32 r] w fun e w' => e = .returned (.bool (goesV r)) ∧ Below w.heap.size w w' := by
  have C := Lib.hid (class_any r w hlo hhi hT)
  unfold goesV
  obtain ⟨c, hc⟩ : ∃ c, c = classV r := ⟨_, rfl⟩
  rw [← hc] at C ⊢
  clear hc hT
  by_cases h1 : c = 1
  · subst h1
    go_enter Tryd.func43, Tryd.ntmps43
    go_wp2_with fail
    refine C.out.mono ?_; rintro e w1 ⟨rfl, hb1⟩
    have HB := Lib.hid hb1; clear hb1
    go_wp2
    go_ret
    exact ⟨rfl, HB.out⟩
  · have e1 := ne_b h1
    rw [show (c == 1 || c == 2) = (c == 2) by rw [e1]; rfl]
    clear h1
    go_enter Tryd.func43, Tryd.ntmps43
    go_wp2_with fail
    refine C.out.mono ?_; rintro e w1 ⟨rfl, hb1⟩
    have HB := Lib.hid hb1; clear hb1
    go_wp2
    go_ret
    exact ⟨rfl, HB.out⟩
end Go.Proofs.YtebgloacobaocaaDoor
