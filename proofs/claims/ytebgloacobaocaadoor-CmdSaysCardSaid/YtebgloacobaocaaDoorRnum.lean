import Derived.Test.YtebgloacobaocaaDoorCount
namespace Go.Proofs.YtebgloacobaocaaDoor
open Go.ChangeShapes Go.WideShapes Go.ChangeAt Go.RowKit Go.Shelf Go.Lib CharsMath
set_option linter.unusedVariables false
theorem digit_class (s : ByteArray) (i : Nat) (h : i < s.size) : digB (s.get! i).toNat = true ↔ classV (rn s i) = 2 := by
  unfold digB
  rw [decide_eq_true_iff]
  constructor
  · intro hd
    have := (rn_ascii s i h (by omega)).1
    rw [this]
    obtain ⟨d, hd2⟩ : ∃ d, d = (s.get! i).toNat := ⟨_, rfl⟩
    rw [← hd2] at hd ⊢
    have hk : d = 48 ∨ d = 49 ∨ d = 50 ∨ d = 51 ∨ d = 52 ∨ d = 53 ∨ d = 54 ∨ d = 55 ∨ d = 56 ∨ d = 57 := by omega
    clear hd2 this hd
    rcases hk with rfl | rfl | rfl | rfl | rfl | rfl | rfl | rfl | rfl | rfl <;> rfl
  · intro hc
    have h2 := class_two _ hc
    have h3 : (s.get! i).toNat < 128 := (rn_low s i h).1 (by omega)
    have := (rn_ascii s i h h3).1
    omega
theorem count_number (s : ByteArray) (hs : s.size ≤ 9) : ∀ f i (n : Int), s.size + 1 ≤ i + f → i ≤ s.size → countGo s f i n = (if (numberGo s f i n).2 = true then (numberGo s f i n).1 else -1) := by
  intro f
  induction f with
  | zero => intro i n h1 h2; omega
  | succ f ih =>
    intro i n h1 h2
    unfold countGo numberGo
    by_cases hi : i < s.size
    · rw [if_pos hi, if_pos hi, if_neg (show ¬ 9 ≤ i by omega)]
      by_cases hd : digB (s.get! i).toNat = true
      · have hc := (digit_class s i hi).1 hd
        have h3 := class_two _ hc
        have h4 := rn_ascii s i hi ((rn_low s i hi).1 (by omega))
        rw [if_pos hd, if_pos hc, h4.2, h4.1]
        rw [show 10 * n + (((s.get! i).toNat : Int) - 48) = n * 10 + (((s.get! i).toNat : Int) - 48) by omega]
        exact ih _ _ (by omega) (by omega)
      · rw [if_neg hd, if_neg (fun h => hd ((digit_class s i hi).2 h))]
        rfl
    · rw [if_neg hi, if_neg hi]
      rfl
theorem numberGo_long (s : ByteArray) (hs : 9 < s.size) : ∀ f i (n : Int), i ≤ 9 → (numberGo s f i n).2 = false := by
  intro f
  induction f with
  | zero => intro i n h1; rfl
  | succ f ih =>
    intro i n h1
    unfold numberGo
    rw [if_pos (show i < s.size by omega)]
    by_cases h9 : 9 ≤ i
    · rw [if_pos h9]
    · rw [if_neg h9]
      by_cases hc : classV (rn s i) = 2
      · rw [if_pos hc, wd_two s i (by omega) hc]
        exact ih _ _ (by omega)
      · rw [if_neg hc]
theorem count_eq (s : ByteArray) (h : 0 < s.size) : countV s = (if (numberV s).2 = true then (numberV s).1 else -1) := by
  unfold countV numberV
  by_cases h9 : 9 < s.size
  · rw [if_pos (Or.inr h9), numberGo_long s h9 _ 0 0 (by omega)]
    rfl
  · rw [if_neg (by omega)]
    exact count_number s (by omega) _ 0 0 (by omega) (by omega)
end Go.Proofs.YtebgloacobaocaaDoor
