import Derived.Test.YtkimnbdjdhapnaaDoorBase
namespace Go.Proofs.YtkimnbdjdhapnaaDoor
open Go.ChangeShapes Go.WideShapes Go.ChangeAt Go.RowKit Go.Shelf Go.Lib CharsMath
set_option linter.unusedVariables false
theorem below_alloc (w : World) (o : Obj) : Below w.heap.size w (w.alloc o) := (Below.refl _ _).alloc (Nat.le_refl _) _
theorem bt {w a b : World} (h : Below w.heap.size w a) (k : Below a.heap.size a b) : Below w.heap.size w b := h.trans (k.mono h.size)
theorem below_drewN (w : World) (n : Nat) : Below w.heap.size w (w.drewN n) := ⟨rfl, rfl, rfl, Nat.le_refl _, fun _ _ => rfl⟩
def startsV (r : Int) : Bool := r != 39 && classV r == 1
set_option maxRecDepth 100000 in
theorem starts_any (r : Int) (w : World) (hlo : -2147483648 ≤ r) (hhi : r ≤ 2147483647) (hT : Tabs w) :
    Calls Tryd.prog 14 #[.int .i32 r] w fun e w' => e = .returned (.bool (startsV r)) ∧ Below w.heap.size w w' := by
  have C := Lib.hid (class_any r w hlo hhi hT)
  clear hT
  by_cases h : r = 39
  · subst h
    rw [show startsV 39 = false from rfl]
    go_enter Tryd.func14, Tryd.ntmps14
    go_wp2
    go_ret
    exact ⟨rfl, Below.refl _ _⟩
  · have e1 := ne_b h
    have e2 : (r != 39) = true := by simp [bne, e1]
    rw [show startsV r = (classV r == 1) by unfold startsV; rw [e2]; rfl]
    obtain ⟨c, hc⟩ : ∃ c, c = classV r := ⟨_, rfl⟩
    rw [← hc] at C ⊢
    clear hc h
    go_enter Tryd.func14, Tryd.ntmps14
    go_wp2_with fail
    refine C.out.mono ?_; rintro e w1 ⟨rfl, hb1⟩
    have HB := Lib.hid hb1; clear hb1
    go_wp2
    go_ret
    exact ⟨rfl, HB.out⟩
def goesV (r : Int) : Bool := classV r == 1 || classV r == 2
set_option maxRecDepth 100000 in
theorem goes_any (r : Int) (w : World) (hlo : -2147483648 ≤ r) (hhi : r ≤ 2147483647) (hT : Tabs w) :
    Calls Tryd.prog 18 #[.int .i32 r] w fun e w' => e = .returned (.bool (goesV r)) ∧ Below w.heap.size w w' := by
  have C := Lib.hid (class_any r w hlo hhi hT)
  unfold goesV
  obtain ⟨c, hc⟩ : ∃ c, c = classV r := ⟨_, rfl⟩
  rw [← hc] at C ⊢
  clear hc hT
  by_cases h1 : c = 1
  · subst h1
    go_enter Tryd.func18, Tryd.ntmps18
    go_wp2_with fail
    refine C.out.mono ?_; rintro e w1 ⟨rfl, hb1⟩
    have HB := Lib.hid hb1; clear hb1
    go_wp2
    go_ret
    exact ⟨rfl, HB.out⟩
  · have e1 := ne_b h1
    rw [show (c == 1 || c == 2) = (c == 2) by rw [e1]; rfl]
    clear h1
    go_enter Tryd.func18, Tryd.ntmps18
    go_wp2_with fail
    refine C.out.mono ?_; rintro e w1 ⟨rfl, hb1⟩
    have HB := Lib.hid hb1; clear hb1
    go_wp2
    go_ret
    exact ⟨rfl, HB.out⟩
end Go.Proofs.YtkimnbdjdhapnaaDoor
