import Derived.Test.YtebgloacobaocaaDoorRpeq
namespace Go.Proofs.YtebgloacobaocaaDoor
open Go.ChangeShapes Go.WideShapes Go.ChangeAt Go.RowKit Go.Shelf Go.Lib CharsMath
set_option linter.unusedVariables false
theorem numGo_range (s : ByteArray) : ∀ (f i : Nat) (n : Int), i ≤ 9 → 0 ≤ n → n < (10 : Int) ^ i → (numberGo s f i n).2 = true → 0 ≤ (numberGo s f i n).1 ∧ (numberGo s f i n).1 ≤ 999999999 := by
  intro f
  induction f with
  | zero => intro i n h1 h2 h3 h4; cases h4
  | succ f ih =>
    intro i n h1 h2 h3 h4
    unfold numberGo at h4 ⊢
    by_cases hi : i < s.size
    · rw [if_pos hi] at h4 ⊢
      by_cases h9 : 9 ≤ i
      · rw [if_pos h9] at h4; cases h4
      · rw [if_neg h9] at h4 ⊢
        by_cases hc : classV (rn s i) = 2
        · rw [if_pos hc, wd_two s i hi hc] at h4 ⊢
          have h5 := class_two _ hc
          refine ih _ _ (by omega) (by omega) ?_ h4
          rw [Int.pow_succ]; omega
        · rw [if_neg hc] at h4; cases h4
    · rw [if_neg hi] at h4 ⊢
      refine ⟨h2, ?_⟩
      have : ∀ j : Nat, j ≤ 9 → (10 : Int) ^ j ≤ 1000000000 := by decide
      have := this i h1
      show n ≤ _
      omega
theorem num_range (s : ByteArray) (h : (numberV s).2 = true) : 0 ≤ (numberV s).1 ∧ (numberV s).1 ≤ 999999999 := numGo_range s _ 0 0 (by omega) (by omega) (by decide) h
theorem verb_full (j : Nat) (h1 : 1 ≤ j) (h2 : j ≤ 17) : (verbV (j : Int)).size ≠ 0 := by
  have : j = 1 ∨ j = 2 ∨ j = 3 ∨ j = 4 ∨ j = 5 ∨ j = 6 ∨ j = 7 ∨ j = 8 ∨ j = 9 ∨ j = 10 ∨ j = 11 ∨ j = 12 ∨ j = 13 ∨ j = 14 ∨ j = 15 ∨ j = 16 ∨ j = 17 := by omega
  rcases this with rfl | rfl | rfl | rfl | rfl | rfl | rfl | rfl | rfl | rfl | rfl | rfl | rfl | rfl | rfl | rfl | rfl <;> decide
theorem rk_eq (k : Nat) (l : List ByteArray) (hl : l.length = 1 ∨ l.length = 2) (hf : l.length = 2 → 0 < (wordAt l 1).size) (h1 : 1 ≤ k) (h2 : k ≤ 17) :
    rkV k l = if (rest k l).2.2 = true ∧ goodV k (rest k l).1 (rest k l).2.1 = true then some ((k : Int), (rest k l).1, (rest k l).2.1) else none := by
  have hv := verb_full k h1 h2
  have hj : k = 1 ∨ k = 2 ∨ k = 3 ∨ k = 4 ∨ k = 5 ∨ k = 6 ∨ k = 7 ∨ k = 8 ∨ k = 9 ∨ k = 10 ∨ k = 11 ∨ k = 12 ∨ k = 13 ∨ k = 14 ∨ k = 15 ∨ k = 16 ∨ k = 17 := by omega
  have hz : (⟨#[]⟩ : ByteArray).size = 0 := rfl
  unfold rkV rest goodV
  rw [named_eq]
  rcases hl with hl | hl
  · rw [hl]
    generalize wordAt l 1 = y
    generalize lowerV ⟨#[]⟩ = lw
    generalize runes ⟨#[]⟩ = rc
    generalize verbV (k : Int) = v at hv ⊢
    clear hf h1 h2
    rcases hj with rfl | rfl | rfl | rfl | rfl | rfl | rfl | rfl | rfl | rfl | rfl | rfl | rfl | rfl | rfl | rfl | rfl
    all_goals simp [behind, numberedV, namedV, leastV, mostV, hv, hz]
  · have hf := hf hl
    rw [hl, count_eq _ hf]
    have hr := num_range (wordAt l 1)
    generalize wordAt l 1 = y at hf hr ⊢
    generalize numberV y = ny at hr ⊢
    obtain ⟨n, b⟩ := ny
    generalize verbV (k : Int) = v at hv ⊢
    clear h1 h2
    simp only [] at hr ⊢
    rcases hj with rfl | rfl | rfl | rfl | rfl | rfl | rfl | rfl | rfl | rfl | rfl | rfl | rfl | rfl | rfl | rfl | rfl
    all_goals (cases b <;> simp [behind, numberedV, namedV, leastV, mostV, hv, hz] at hr ⊢)
    all_goals (repeat' split)
    all_goals (first | rfl | (exfalso; omega) | (exfalso; simp_all; done) | (exfalso; simp_all; omega))
theorem findGo_range {x : ByteArray} : ∀ (f k j : Nat), findGo x f k = some j → k ≤ j ∧ j < k + f := by
  intro f
  induction f with
  | zero => intro k j h; cases h
  | succ f ih =>
    intro k j h
    unfold findGo at h
    split at h
    · injection h with h; omega
    · have := ih _ _ h; omega
theorem rparse_eq (s : ByteArray) : rparseV s = parseV s := by
  unfold rparseV parseV parseL
  split
  · rfl
  split
  · rfl
  rename_i a b
  cases hg : findGo (wordAt (wordsV s) 0) 17 1 with
  | none => rfl
  | some k =>
    have hr := findGo_range _ _ _ hg
    refine rk_eq k _ (by omega) (fun h => ?_) (by omega) (by omega)
    refine wordsV_full s _ ?_
    unfold wordAt
    rw [List.getD_eq_getElem?_getD, List.getElem?_eq_getElem (by omega)]
    exact List.getElem_mem _
end Go.Proofs.YtebgloacobaocaaDoor
