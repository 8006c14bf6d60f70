import Derived.Test.YtdkfimejabanlaaDoorSd
namespace Go.Proofs.YtdkfimejabanlaaDoor
open Go.ChangeShapes Go.WideShapes Go.ChangeAt Go.RowKit Go.WideMaps
set_option linter.unusedVariables false
set_option linter.unusedSimpArgs false
theorem args_two {V : TT} (h : headOk V = true) : V.args.length ≤ 2 ∧ (V.k = 7 → V.args = []) := by
  obtain ⟨-, -, -, -, har⟩ := head_var h
  unfold arT at har
  refine ⟨by split at har <;> (try split at har) <;> omega, fun h7 => ?_⟩
  rw [if_neg (by omega), if_neg (by omega)] at har
  exact List.length_eq_zero_iff.1 (by omega)
/-- how many variables may come up. -/
theorem vars_few : ∀ (d : Nat) (V : TT) (l : List Int), bigT (d + 1) V = false → shp V = true → (varsT V l).length ≤ l.length + 2 ^ d
  | d, V, l, hb, hs => by
    obtain ⟨-, -, b3⟩ := bigT_parts hb
    rw [shp_eq, Bool.and_eq_true] at hs
    obtain ⟨a2, a7⟩ := args_two hs.1
    have hall := (shpL_all _).1 hs.2
    have hp : 1 ≤ 2 ^ d := Nat.one_le_two_pow
    rw [varsT_eq]
    by_cases h7 : V.k = 7
    · rw [if_pos h7, a7 h7, varsL]
      have := (addV_len l V.vr).1
      omega
    · rw [if_neg h7]
      match hA : V.args, a2, b3, hall with
      | [], _, _, _ => rw [varsL]; omega
      | [a], _, b3, hall =>
        cases d with
        | zero => have := b3 a (by simp); cases this
        | succ d =>
          rw [varsL, varsL]
          have := vars_few d a l (b3 a (by simp)) (hall a (by simp))
          have : 2 ^ (d + 1) = 2 * 2 ^ d := by rw [Nat.pow_succ]; omega
          omega
      | [a, b], _, b3, hall =>
        cases d with
        | zero => have := b3 a (by simp); cases this
        | succ d =>
          rw [varsL, varsL, varsL]
          have h1 := vars_few d a l (b3 a (by simp)) (hall a (by simp))
          have h2 := vars_few d b (varsT a l) (b3 b (by simp)) (hall b (by simp))
          have : 2 ^ (d + 1) = 2 * 2 ^ d := by rw [Nat.pow_succ]; omega
          omega
      | a :: b :: c :: r, a2, _, _ => simp at a2
theorem let_size (i : Nat) (h : i < 100) : (letT i).size ≤ 3 := by
  unfold letT
  split
  · show 2 ≤ 3; omega
  · rw [ByteArray.size_append]
    show 1 + (Lib.decDigits i).toArray.size ≤ 3
    by_cases h10 : i < 10
    · rw [Lib.decDigits_one h10]; simp
    · rw [Lib.decDigits_two h10 h]; simp
theorem txt_small : ∀ (d : Nat) (V : TT) (l : List Int), bigT d V = false → shp V = true → (varsT V l).length ≤ 99 → (txt V l).size ≤ 100 * 3 ^ d
  | 0, V, l, hb, _, _ => by cases hb
  | d + 1, V, l, hb, hs, hn => by
    obtain ⟨-, hnm, b3⟩ := bigT_parts hb
    rw [shp_eq, Bool.and_eq_true] at hs
    obtain ⟨a2, a7⟩ := args_two hs.1
    obtain ⟨-, -, k0, k7, -⟩ := head_var hs.1
    have hall := (shpL_all _).1 hs.2
    have hp : 1 ≤ 3 ^ d := Nat.one_le_pow _ _ (by omega)
    have hp2 : 3 ^ (d + 1) = 3 * 3 ^ d := by rw [Nat.pow_succ]; omega
    have hL : ∀ (btw : ByteArray), btw.size ≤ 4 → (V.k ≠ 7) → (txtL true btw V.args l).size ≤ 200 * 3 ^ d + 4 := by
      intro btw hbt h7
      rw [varsT_eq, if_neg h7] at hn
      match hA : V.args, a2, b3, hall, hn with
      | [], _, _, _, _ => rw [txtL]; show 0 ≤ _; omega
      | [a], _, b3, hall, hn =>
        rw [varsL, varsL] at hn
        have h1 := txt_small d a l (b3 a (by simp)) (hall a (by simp)) hn
        rw [txtL, txtL, ByteArray.size_append, ByteArray.size_append]
        show (0 + _) + 0 ≤ _
        omega
      | [a, b], _, b3, hall, hn =>
        rw [varsL, varsL, varsL] at hn
        have hg := varsT_ge b (varsT a l)
        have h1 := txt_small d a l (b3 a (by simp)) (hall a (by simp)) (by omega)
        have h2 := txt_small d b (varsT a l) (b3 b (by simp)) (hall b (by simp)) hn
        rw [txtL, txtL, txtL, ByteArray.size_append, ByteArray.size_append, ByteArray.size_append, ByteArray.size_append]
        show (0 + _) + ((btw.size + _) + 0) ≤ _
        omega
      | a :: b :: c :: r, a2, _, _, _ => simp at a2
    rw [txt_eq]
    split
    · show 3 ≤ _; omega
    split
    · show 4 ≤ _; omega
    split
    · show 4 ≤ _; omega
    split
    · omega
    split
    · have := hL ⟨#[32, 45, 62, 32]⟩ (by show 4 ≤ 4; omega) (by omega)
      rw [ByteArray.size_append, ByteArray.size_append]
      show (1 + _) + 1 ≤ _
      omega
    split
    · have := hL ⟨#[]⟩ (by show 0 ≤ 4; omega) (by omega)
      rw [ByteArray.size_append, ByteArray.size_append]
      show (1 + _) + 5 ≤ _
      omega
    · have h7 : V.k = 7 := by omega
      rw [varsT_eq, if_pos h7, a7 h7, varsL] at hn
      have hmemx : V.vr ∈ addV l V.vr := by unfold addV; split <;> simp_all
      have hpl := posV_lt hmemx
      have := let_size (posV (addV l V.vr) V.vr + 1) (by omega)
      omega
end Go.Proofs.YtdkfimejabanlaaDoor
