import Derived.Test.YtebgloacobaocaaDoorRshow
import Derived.Test.YtebgloacobaocaaDoorCount
import Derived.Test.YtebgloacobaocaaDoorParse
namespace Go.Proofs.YtebgloacobaocaaDoor
open Go.ChangeShapes Go.WideShapes Go.ChangeAt Go.RowKit Go.Shelf Go.Lib CharsMath
set_option linter.unusedVariables false
theorem shaped_tail (s : ByteArray) : ∀ f i, 0 < i → i ≤ s.size → s.size + 1 ≤ i + f → shapedGo s f i = (decide (tailGo s f i = s.size) && decide (0 < s.size)) := by
  intro f
  induction f with
  | zero => intro i h1 h2 h3; omega
  | succ f ih =>
    intro i h1 h2 h3
    unfold shapedGo tailGo
    by_cases hi : i < s.size
    · rw [if_pos hi, if_pos hi, if_neg (by omega)]
      by_cases hg : goesV (rn s i) = false
      · rw [if_pos hg, if_pos hg]
        rw [decide_eq_false (by omega)]; rfl
      · rw [if_neg hg, if_neg hg]
        have := wd_pos s i hi
        have := wd_le s i hi
        exact ih _ (by omega) (by omega) (by omega)
    · rw [if_neg hi, if_neg hi]
      rw [decide_eq_true (rfl : s.size = s.size)]; rfl
theorem named_eq (s : ByteArray) : rnamedV s = (lowerV s && decide (runes s ≤ 40)) := by
  unfold rnamedV lowerV shapedV tailV
  by_cases h0 : 0 < s.size
  · have e1 : firstV s = (rn s 0, wd s 0) := if_pos h0
    have e2 : upperV s = isUpperU (rn s 0) := if_pos h0
    rw [e1, e2, decide_eq_true h0]
    have := wd_pos s 0 h0
    have := wd_le s 0 h0
    unfold shapedGo tailGo
    rw [if_pos h0, if_pos h0, Nat.zero_add]
    by_cases hst : startsV (rn s 0) = false
    · rw [if_pos (show (0:Nat) = 0 ∧ startsV (rn s 0 : Int) = false from ⟨rfl, hst⟩)]
      unfold startsV at hst
      simp only [Bool.true_and, Bool.false_and]
      have : (classV (rn s 0 : Int) == 1 && (rn s 0 != 39)) = false := by
        rw [Bool.and_comm, ← hst]
        congr 1
        unfold bne
        congr 1
        rw [Bool.eq_iff_iff]; simp; omega
      rw [this]; rfl
    · have hst' : startsV (rn s 0) = true := by simpa using hst
      rw [if_neg (show ¬ ((0:Nat) = 0 ∧ startsV (rn s 0 : Int) = false) from fun h => hst h.2)]
      have h39 : (classV (rn s 0 : Int) == 1) = true ∧ (rn s 0 != 39) = true := by
        unfold startsV at hst'
        simp at hst' ⊢
        omega
      have hg : goesV (rn s 0) = true := by unfold goesV; rw [h39.1]; rfl
      rw [hg, h39.1, h39.2]
      simp only [Bool.true_and, Bool.true_eq_false, if_false]
      rw [shaped_tail s s.size (wd s 0) (by omega) (by omega) (by omega), decide_eq_true h0]
      cases isUpperU (rn s 0) <;> simp
  · have e3 : shapedGo s (s.size + 1) 0 = false := by
      unfold shapedGo
      rw [if_neg h0, decide_eq_false h0]
    rw [e3, decide_eq_false h0]; rfl
theorem show_eq (k n : Int) (x : ByteArray) : rshowV k n x = showV k n x := by
  by_cases hk : k < 1 ∨ 17 < k
  · have hv : verbV k = ⟨#[]⟩ := by
      unfold verbV
      by_cases h0 : k < 0
      · rw [if_pos h0]
      · rw [if_neg h0]
        rcases hk with h | h
        · rw [show k = 0 by omega]; rfl
        · rw [List.getD, List.getElem?_eq_none (by show 18 ≤ k.toNat; omega)]; rfl
    unfold rshowV showV
    rw [if_pos hk, if_pos (by unfold goodV; rw [hv]; rfl)]
  · have hk' : k = 1 ∨ k = 2 ∨ k = 3 ∨ k = 4 ∨ k = 5 ∨ k = 6 ∨ k = 7 ∨ k = 8 ∨ k = 9 ∨ k = 10 ∨ k = 11 ∨ k = 12 ∨ k = 13 ∨ k = 14 ∨ k = 15 ∨ k = 16 ∨ k = 17 := by omega
    unfold rshowV showV goodV
    rw [if_neg hk, named_eq]
    generalize lowerV x = lw
    generalize runes x = rc
    have hz : ∀ j : Nat, 1 ≤ j → j ≤ 17 → (verbV (j : Int)).size ≠ 0 := by
      intro j h1 h2
      have : j = 1 ∨ j = 2 ∨ j = 3 ∨ j = 4 ∨ j = 5 ∨ j = 6 ∨ j = 7 ∨ j = 8 ∨ j = 9 ∨ j = 10 ∨ j = 11 ∨ j = 12 ∨ j = 13 ∨ j = 14 ∨ j = 15 ∨ j = 16 ∨ j = 17 := by omega
      rcases this with rfl | rfl | rfl | rfl | rfl | rfl | rfl | rfl | rfl | rfl | rfl | rfl | rfl | rfl | rfl | rfl | rfl <;> decide
    obtain ⟨j, rfl⟩ : ∃ j : Nat, k = j := ⟨k.toNat, by omega⟩
    rw [if_neg (hz j (by omega) (by omega)), Int.toNat_natCast]
    clear hz hk
    generalize verbV (j : Int) = v
    have hj : j = 1 ∨ j = 2 ∨ j = 3 ∨ j = 4 ∨ j = 5 ∨ j = 6 ∨ j = 7 ∨ j = 8 ∨ j = 9 ∨ j = 10 ∨ j = 11 ∨ j = 12 ∨ j = 13 ∨ j = 14 ∨ j = 15 ∨ j = 16 ∨ j = 17 := by omega
    clear hk'
    generalize x.size = z
    rcases hj with rfl | rfl | rfl | rfl | rfl | rfl | rfl | rfl | rfl | rfl | rfl | rfl | rfl | rfl | rfl | rfl | rfl
    all_goals (simp [behindV, behind, numberedV, namedV, leastV, mostV])
    all_goals (repeat' split)
    all_goals (first | rfl | (exfalso; omega) | (exfalso; simp_all; done) | (exfalso; simp_all; omega))
end Go.Proofs.YtebgloacobaocaaDoor
