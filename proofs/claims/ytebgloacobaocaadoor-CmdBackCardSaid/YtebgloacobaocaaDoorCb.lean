import Derived.Test.YtebgloacobaocaaDoorCm
namespace Go.Proofs.YtebgloacobaocaaDoor
open Go Go.Lib CharsMath
set_option linter.unusedVariables false
set_option maxRecDepth 100000
theorem verb_words : ∀ k, k < 18 → 1 ≤ k → wordsV (verbV ((k : Nat) : Int)) = [verbV (k : Int)] ∧ findGo (verbV (k : Int)) 17 1 = some k := by decide +kernel
theorem verb_kind {k : Int} (h : ¬ (verbV k).size = 0) : ∃ j : Nat, k = j ∧ 1 ≤ j ∧ j < 18 := by
  unfold verbV at h
  split at h
  · exact absurd rfl h
  · rename_i h0
    refine ⟨k.toNat, by omega, ?_, ?_⟩
    · rcases Nat.eq_zero_or_pos k.toNat with e | e
      · rw [e] at h; exact absurd rfl h
      · exact e
    · rcases Nat.lt_or_ge k.toNat 18 with e | e
      · exact e
      · rw [List.getD, List.getElem?_eq_none (by exact e)] at h; exact absurd rfl h
theorem good_parts {k n : Int} {x : ByteArray} (h : goodV k n x = true) : ¬ (verbV k).size = 0 ∧ leastV k ≤ n ∧ n ≤ mostV k ∧ (if namedV k then lowerV x = true ∧ runes x ≤ 40 else x.size = 0) := by
  unfold goodV at h
  split at h
  · cases h
  split at h
  · cases h
  split at h
  · cases h
  rename_i a b c
  refine ⟨a, by omega, by omega, ?_⟩
  split at h
  · rename_i hn; rw [if_pos hn]; simpa using h
  · rename_i hn; rw [if_neg hn]; simpa using h
theorem words_two (a b : ByteArray) : wordsV ((a ++ ⟨#[32]⟩) ++ b) = wordsV a ++ wordsV b := words_join a b 32 (by decide) class_sp
theorem back_show {k n : Int} {x : ByteArray} (h : goodV k n x = true) : parseV (showV k n x) = some (k, n, x) := by
  obtain ⟨hv, hl, hm, hx⟩ := good_parts h
  obtain ⟨j, rfl, hj1, hj2⟩ := verb_kind hv
  obtain ⟨w1, f1⟩ := verb_words j hj2 hj1
  have hs : showV j n x = if numberedV j then (verbV j ++ ⟨#[32]⟩) ++ itoaB n else if namedV j then (verbV j ++ ⟨#[32]⟩) ++ x else verbV j := by
    unfold showV; rw [if_neg (by rw [h]; simp)]
  unfold parseV
  cases hn : numberedV j with
  | true =>
    have hnm : namedV j = false := by
      have : ∀ k, k < 18 → numberedV ((k : Nat) : Int) = true → namedV (k : Int) = false := by decide
      exact this j hj2 hn
    rw [if_neg (by rw [hnm]; simp)] at hx
    have hx0 := size0 hx
    obtain ⟨r0, r1⟩ := good_range h
    obtain ⟨nb, wi⟩ := itoa_back n r0 r1
    rw [hs, hn, if_pos rfl, words_two, w1, wi]
    unfold parseL
    rw [if_neg (by simp), if_neg (by simp)]
    have e0 : wordAt ([verbV (j : Int)] ++ [itoaB n]) 0 = verbV (j : Int) := rfl
    have e1 : wordAt ([verbV (j : Int)] ++ [itoaB n]) 1 = itoaB n := rfl
    rw [e0, f1]
    simp only []
    have er : rest (j : Int) ([verbV (j : Int)] ++ [itoaB n]) = (n, ⟨#[]⟩, true) := by
      unfold rest
      rw [if_neg (by simp), hn, if_pos rfl, e1, nb]
    rw [er]
    simp only []
    rw [if_pos ⟨trivial, by rw [← hx0]; exact h⟩, hx0]
  | false =>
    have hn0 : n = 0 := by
      unfold leastV at hl; unfold mostV at hm
      rw [hn] at hl hm
      simp at hl hm; omega
    subst hn0
    cases hnm : namedV j with
    | true =>
      rw [if_pos hnm] at hx
      rw [hs, hn, hnm, if_neg (by simp), if_pos rfl, words_two, w1, lower_word hx.1]
      unfold parseL
      rw [if_neg (by simp), if_neg (by simp)]
      have e0 : wordAt ([verbV (j : Int)] ++ [x]) 0 = verbV (j : Int) := rfl
      have e1 : wordAt ([verbV (j : Int)] ++ [x]) 1 = x := rfl
      rw [e0, f1]
      simp only []
      have er : rest (j : Int) ([verbV (j : Int)] ++ [x]) = (0, x, true) := by
        unfold rest
        rw [if_neg (by simp), hn, hnm, if_neg (by simp), if_pos rfl, e1]
      rw [er]
      simp only []
      rw [if_pos ⟨trivial, h⟩]
    | false =>
      rw [if_neg (by rw [hnm]; simp)] at hx
      have hx0 := size0 hx
      rw [hs, hn, hnm, if_neg (by simp), if_neg (by simp), w1]
      unfold parseL
      rw [if_neg (by simp), if_neg (by simp)]
      have e0 : wordAt [verbV (j : Int)] 0 = verbV (j : Int) := rfl
      rw [e0, f1]
      simp only []
      have h37 : ¬ ((j : Int) = 3 ∨ (j : Int) = 7) := by
        have : ∀ k, k < 18 → numberedV ((k : Nat) : Int) = false → ¬ ((k : Int) = 3 ∨ (k : Int) = 7) := by decide
        exact this j hj2 hn
      have er : rest (j : Int) [verbV (j : Int)] = (0, ⟨#[]⟩, true) := by
        unfold rest
        rw [if_pos (show [verbV (j : Int)].length = 1 from rfl), if_neg h37, hn, hnm]; rfl
      rw [er]
      simp only []
      rw [if_pos ⟨trivial, by rw [← hx0]; exact h⟩, hx0]
/-- what Parse answers is a command. -/
theorem parse_good {s : ByteArray} {k n : Int} {x : ByteArray} (h : parseV s = some (k, n, x)) : goodV k n x = true ∧ x.size ≤ s.size := by
  unfold parseV parseL at h
  split at h
  · cases h
  split at h
  · cases h
  split at h
  · cases h
  · rename_i j hj
    split at h
    · rename_i hc
      injection h with h
      injection h with h1 h2
      injection h2 with h2 h3
      subst h1
      refine ⟨by rw [← h2, ← h3]; exact hc.2, ?_⟩
      rw [← h3]
      unfold rest
      split
      · split <;> exact Nat.zero_le _
      split
      · exact Nat.zero_le _
      split
      · exact wordAt_size s 1
      · exact Nat.zero_le _
    · cases h
theorem back_blanks (s : ByteArray) : parseV (((⟨#[32]⟩ : ByteArray) ++ s) ++ ⟨#[10]⟩) = parseV s := by
  unfold parseV
  have e1 := words_join ((⟨#[32]⟩ : ByteArray) ++ s) ⟨#[]⟩ 10 (by decide) class_lf
  rw [ba_nil, w_empty, List.append_nil] at e1
  have e2 := words_join ⟨#[]⟩ s 32 (by decide) class_sp
  rw [nil_ba, w_empty, List.nil_append] at e2
  rw [e1, e2]
theorem show_len {k n : Int} {x : ByteArray} (hx : x.size ≤ 200) : (showV k n x).size ≤ 300 := by
  have hv := verb_len k
  unfold showV
  split
  · exact Nat.zero_le _
  · rename_i hg
    obtain ⟨r0, r1⟩ := good_range (show goodV k n x = true by simpa using hg)
    have hi := itoaB_len n r0 r1
    have z1 : (⟨#[32]⟩ : ByteArray).size = 1 := rfl
    split
    · rw [ByteArray.size_append, ByteArray.size_append, z1]; omega
    split
    · rw [ByteArray.size_append, ByteArray.size_append, z1]; omega
    · omega
end Go.Proofs.YtebgloacobaocaaDoor
