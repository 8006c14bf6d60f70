import Derived.Test.YtebgloacobaocaaDoorRnum
import Derived.Test.YtebgloacobaocaaDoorRmath
import Derived.Test.YtebgloacobaocaaDoorRpa
namespace Go.Proofs.YtebgloacobaocaaDoor
open Go.ChangeShapes Go.WideShapes Go.ChangeAt Go.RowKit Go.Shelf Go.Lib CharsMath
set_option linter.unusedVariables false
theorem wordsGo_full (s : ByteArray) : ∀ (f i : Nat) (fr : Option Nat) (acc : List ByteArray), i ≤ s.size → (∀ a, fr = some a → a < i) → (∀ x ∈ acc, 0 < x.size) → ∀ x ∈ wordsGo s f i fr acc, 0 < x.size := by
  intro f
  induction f with
  | zero => intro i fr acc h1 h2 h3; exact h3
  | succ f ih =>
    intro i fr acc h1 h2 h3
    unfold wordsGo
    by_cases hi : i < s.size
    · rw [if_pos hi]
      have hw1 := wd_pos s i hi
      have hw2 := wd_le s i hi
      have key : ∀ a, fr = some a → 0 < (s.extract a i).size := fun a ha => by rw [ext_size s a i h1]; have := h2 a ha; omega
      cases fr with
      | none =>
        unfold stepF
        by_cases hc : classV (rn s i) = 3
        · simp only [if_pos hc]; exact ih _ _ _ hw2 (fun a ha => by cases ha) h3
        · simp only [if_neg hc]; exact ih _ _ _ hw2 (fun a ha => by injection ha with ha; omega) h3
      | some a0 =>
        unfold stepF
        by_cases hc : classV (rn s i) = 3
        · simp only [if_pos hc]
          refine ih _ _ _ hw2 (fun a ha => by cases ha) (fun x hx => ?_)
          rcases List.mem_append.1 hx with hx | hx
          · exact h3 x hx
          · rw [List.mem_singleton] at hx; subst hx; exact key a0 rfl
        · simp only [if_neg hc]
          exact ih _ _ _ hw2 (fun a ha => by injection ha with ha; have := h2 a0 rfl; omega) h3
    · rw [if_neg hi]
      cases fr with
      | none => exact h3
      | some a0 =>
        intro x hx
        rcases List.mem_append.1 hx with hx | hx
        · exact h3 x hx
        · rw [List.mem_singleton] at hx; subst hx
          rw [ext_size s a0 s.size (Nat.le_refl _)]; have := h2 a0 rfl; omega
theorem wordsV_full (s : ByteArray) : ∀ x ∈ wordsV s, 0 < x.size := wordsGo_full s _ 0 none [] (by omega) (fun a ha => by cases ha) (fun x hx => by cases hx)
end Go.Proofs.YtebgloacobaocaaDoor
