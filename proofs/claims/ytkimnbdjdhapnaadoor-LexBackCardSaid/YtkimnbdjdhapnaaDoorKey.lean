import Derived.Test.YtkimnbdjdhapnaaDoorLmath
namespace Go.Proofs.YtkimnbdjdhapnaaDoor
open Go.ChangeShapes Go.WideShapes Go.ChangeAt Go.RowKit Go.Shelf Go.Lib CharsMath
set_option linter.unusedVariables false
set_option maxHeartbeats 4000000 in
set_option maxRecDepth 100000 in
theorem key_any (x : ByteArray) (w : World) : Calls Tryd.prog 19 #[.string x] w fun e w' => e = .returned (.bool (keyV x)) ∧ w = w' := by
  cases h0 : (x.toList == [116, 121, 112, 101]) with
  | true =>
    rw [show keyV x = true from by unfold keyV keys; simp only [List.contains_cons, h0, Bool.true_or]]
    go_enter Tryd.func19, Tryd.ntmps19
    go_wp2
    go_ret
    exact ⟨rfl, rfl⟩
  | false =>
  cases h1 : (x.toList == [111, 102]) with
  | true =>
    rw [show keyV x = true from by unfold keyV keys; simp only [List.contains_cons, h0, h1, Bool.true_or, Bool.false_or]]
    go_enter Tryd.func19, Tryd.ntmps19
    go_wp2
    go_ret
    exact ⟨rfl, rfl⟩
  | false =>
  cases h2 : (x.toList == [108, 101, 116]) with
  | true =>
    rw [show keyV x = true from by unfold keyV keys; simp only [List.contains_cons, h0, h1, h2, Bool.true_or, Bool.false_or]]
    go_enter Tryd.func19, Tryd.ntmps19
    go_wp2
    go_ret
    exact ⟨rfl, rfl⟩
  | false =>
  cases h3 : (x.toList == [114, 101, 99]) with
  | true =>
    rw [show keyV x = true from by unfold keyV keys; simp only [List.contains_cons, h0, h1, h2, h3, Bool.true_or, Bool.false_or]]
    go_enter Tryd.func19, Tryd.ntmps19
    go_wp2
    go_ret
    exact ⟨rfl, rfl⟩
  | false =>
  cases h4 : (x.toList == [105, 110]) with
  | true =>
    rw [show keyV x = true from by unfold keyV keys; simp only [List.contains_cons, h0, h1, h2, h3, h4, Bool.true_or, Bool.false_or]]
    go_enter Tryd.func19, Tryd.ntmps19
    go_wp2
    go_ret
    exact ⟨rfl, rfl⟩
  | false =>
  cases h5 : (x.toList == [102, 117, 110]) with
  | true =>
    rw [show keyV x = true from by unfold keyV keys; simp only [List.contains_cons, h0, h1, h2, h3, h4, h5, Bool.true_or, Bool.false_or]]
    go_enter Tryd.func19, Tryd.ntmps19
    go_wp2
    go_ret
    exact ⟨rfl, rfl⟩
  | false =>
  cases h6 : (x.toList == [105, 102]) with
  | true =>
    rw [show keyV x = true from by unfold keyV keys; simp only [List.contains_cons, h0, h1, h2, h3, h4, h5, h6, Bool.true_or, Bool.false_or]]
    go_enter Tryd.func19, Tryd.ntmps19
    go_wp2
    go_ret
    exact ⟨rfl, rfl⟩
  | false =>
  cases h7 : (x.toList == [116, 104, 101, 110]) with
  | true =>
    rw [show keyV x = true from by unfold keyV keys; simp only [List.contains_cons, h0, h1, h2, h3, h4, h5, h6, h7, Bool.true_or, Bool.false_or]]
    go_enter Tryd.func19, Tryd.ntmps19
    go_wp2
    go_ret
    exact ⟨rfl, rfl⟩
  | false =>
  cases h8 : (x.toList == [101, 108, 115, 101]) with
  | true =>
    rw [show keyV x = true from by unfold keyV keys; simp only [List.contains_cons, h0, h1, h2, h3, h4, h5, h6, h7, h8, Bool.true_or, Bool.false_or]]
    go_enter Tryd.func19, Tryd.ntmps19
    go_wp2
    go_ret
    exact ⟨rfl, rfl⟩
  | false =>
  cases h9 : (x.toList == [109, 97, 116, 99, 104]) with
  | true =>
    rw [show keyV x = true from by unfold keyV keys; simp only [List.contains_cons, h0, h1, h2, h3, h4, h5, h6, h7, h8, h9, Bool.true_or, Bool.false_or]]
    go_enter Tryd.func19, Tryd.ntmps19
    go_wp2
    go_ret
    exact ⟨rfl, rfl⟩
  | false =>
  cases h10 : (x.toList == [119, 105, 116, 104]) with
  | true =>
    rw [show keyV x = true from by unfold keyV keys; simp only [List.contains_cons, h0, h1, h2, h3, h4, h5, h6, h7, h8, h9, h10, Bool.true_or, Bool.false_or]]
    go_enter Tryd.func19, Tryd.ntmps19
    go_wp2
    go_ret
    exact ⟨rfl, rfl⟩
  | false =>
  cases h11 : (x.toList == [101, 110, 100]) with
  | true =>
    rw [show keyV x = true from by unfold keyV keys; simp only [List.contains_cons, h0, h1, h2, h3, h4, h5, h6, h7, h8, h9, h10, h11, Bool.true_or, Bool.false_or]]
    go_enter Tryd.func19, Tryd.ntmps19
    go_wp2
    go_ret
    exact ⟨rfl, rfl⟩
  | false =>
  cases h12 : (x.toList == [114, 101, 102]) with
  | true =>
    rw [show keyV x = true from by unfold keyV keys; simp only [List.contains_cons, h0, h1, h2, h3, h4, h5, h6, h7, h8, h9, h10, h11, h12, Bool.true_or, Bool.false_or]]
    go_enter Tryd.func19, Tryd.ntmps19
    go_wp2
    go_ret
    exact ⟨rfl, rfl⟩
  | false =>
  cases h13 : (x.toList == [112, 114, 105, 110, 116]) with
  | true =>
    rw [show keyV x = true from by unfold keyV keys; simp only [List.contains_cons, h0, h1, h2, h3, h4, h5, h6, h7, h8, h9, h10, h11, h12, h13, Bool.true_or, Bool.false_or]]
    go_enter Tryd.func19, Tryd.ntmps19
    go_wp2
    go_ret
    exact ⟨rfl, rfl⟩
  | false =>
  cases h14 : (x.toList == [114, 101, 97, 100]) with
  | true =>
    rw [show keyV x = true from by unfold keyV keys; simp only [List.contains_cons, h0, h1, h2, h3, h4, h5, h6, h7, h8, h9, h10, h11, h12, h13, h14, Bool.true_or, Bool.false_or]]
    go_enter Tryd.func19, Tryd.ntmps19
    go_wp2
    go_ret
    exact ⟨rfl, rfl⟩
  | false =>
  cases h15 : (x.toList == [114, 97, 105, 115, 101]) with
  | true =>
    rw [show keyV x = true from by unfold keyV keys; simp only [List.contains_cons, h0, h1, h2, h3, h4, h5, h6, h7, h8, h9, h10, h11, h12, h13, h14, h15, Bool.true_or, Bool.false_or]]
    go_enter Tryd.func19, Tryd.ntmps19
    go_wp2
    go_ret
    exact ⟨rfl, rfl⟩
  | false =>
  cases h16 : (x.toList == [116, 114, 121]) with
  | true =>
    rw [show keyV x = true from by unfold keyV keys; simp only [List.contains_cons, h0, h1, h2, h3, h4, h5, h6, h7, h8, h9, h10, h11, h12, h13, h14, h15, h16, Bool.true_or, Bool.false_or]]
    go_enter Tryd.func19, Tryd.ntmps19
    go_wp2
    go_ret
    exact ⟨rfl, rfl⟩
  | false =>
  cases h17 : (x.toList == [116, 114, 117, 101]) with
  | true =>
    rw [show keyV x = true from by unfold keyV keys; simp only [List.contains_cons, h0, h1, h2, h3, h4, h5, h6, h7, h8, h9, h10, h11, h12, h13, h14, h15, h16, h17, Bool.true_or, Bool.false_or]]
    go_enter Tryd.func19, Tryd.ntmps19
    go_wp2
    go_ret
    exact ⟨rfl, rfl⟩
  | false =>
  cases h18 : (x.toList == [102, 97, 108, 115, 101]) with
  | true =>
    rw [show keyV x = true from by unfold keyV keys; simp only [List.contains_cons, h0, h1, h2, h3, h4, h5, h6, h7, h8, h9, h10, h11, h12, h13, h14, h15, h16, h17, h18, Bool.true_or, Bool.false_or]]
    go_enter Tryd.func19, Tryd.ntmps19
    go_wp2
    go_ret
    exact ⟨rfl, rfl⟩
  | false =>
  rw [show keyV x = false from by unfold keyV keys; simp only [List.contains_cons, h0, h1, h2, h3, h4, h5, h6, h7, h8, h9, h10, h11, h12, h13, h14, h15, h16, h17, h18, Bool.false_or]; rfl]
  go_enter Tryd.func19, Tryd.ntmps19
  go_wp2
  go_ret
  exact ⟨rfl, rfl⟩
end Go.Proofs.YtkimnbdjdhapnaaDoor
