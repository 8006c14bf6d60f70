import Derived.Test.YtebgloacobaocaaDoorCw
namespace Go.Proofs.YtebgloacobaocaaDoor
open Go Go.Lib CharsMath
set_option linter.unusedVariables false
set_option maxRecDepth 100000
/-- no rune of Class 3 from i on. -/
def solidGo (s : ByteArray) : Nat → Nat → Bool
  | 0, _ => true
  | f + 1, i => if i < s.size then (if classV (rn s i) = 3 then false else solidGo s f (i + wd s i)) else true
theorem words_solid (s : ByteArray) : ∀ (f i a : Nat) (acc : List ByteArray), s.size + 1 ≤ i + f → i ≤ s.size → solidGo s f i = true → wordsGo s f i (some a) acc = acc ++ [s.extract a s.size] := by
  intro f
  induction f with
  | zero => intro i a acc h1 h2; omega
  | succ f ih =>
    intro i a acc h1 h2 h3
    by_cases h : i < s.size
    · have hp := wd_pos s i h
      have hw := wd_le s i h
      simp only [solidGo, if_pos h] at h3
      by_cases hc : classV (rn s i) = 3
      · rw [if_pos hc] at h3; cases h3
      · rw [if_neg hc] at h3
        simp only [wordsGo, if_pos h, stepF, if_neg hc]
        exact ih _ _ _ (by omega) (by omega) h3
    · rw [wordsGo_stop _ _ _ _ _ h]; rfl
theorem words_one (s : ByteArray) (h0 : 0 < s.size) (h : solidGo s (s.size + 1) 0 = true) : wordsV s = [s] := by
  unfold wordsV
  simp only [solidGo, if_pos h0] at h
  by_cases hc : classV (rn s 0) = 3
  · rw [if_pos hc] at h; cases h
  · rw [if_neg hc] at h
    have hp := wd_pos s 0 h0
    have hw := wd_le s 0 h0
    simp only [wordsGo, if_pos h0, stepF, if_neg hc]
    rw [words_solid s s.size (0 + wd s 0) 0 [] (by omega) (by omega) h, List.nil_append, ByteArray.extract_zero_size]
theorem goes_solid {r : Int} (h : goesV r = true) : classV r ≠ 3 := by
  unfold goesV at h
  intro e; rw [e] at h; cases h
theorem shaped_solid (s : ByteArray) : ∀ (f i : Nat), shapedGo s f i = true → solidGo s f i = true := by
  intro f
  induction f with
  | zero => intro i h; rfl
  | succ f ih =>
    intro i h
    by_cases hi : i < s.size
    · simp only [shapedGo, if_pos hi] at h
      simp only [solidGo, if_pos hi]
      split at h
      · cases h
      split at h
      · cases h
      · rename_i hg
        rw [if_neg (goes_solid (by simpa using hg))]
        exact ih _ h
    · simp only [solidGo, if_neg hi]
theorem shaped_pos (s : ByteArray) : ∀ (f i : Nat), shapedGo s f i = true → 0 < s.size := by
  intro f
  induction f with
  | zero => intro i h; cases h
  | succ f ih =>
    intro i h
    by_cases hi : i < s.size
    · omega
    · simp only [shapedGo, if_neg hi] at h; simpa using h
theorem lower_word {x : ByteArray} (h : lowerV x = true) : wordsV x = [x] := by
  unfold lowerV at h
  rw [Bool.and_eq_true] at h
  exact words_one x (shaped_pos x _ _ h.1) (shaped_solid x _ _ h.1)
/-! digits -/
theorem class_digit (d : Nat) (h1 : 48 ≤ d) (h2 : d ≤ 57) : classV (d : Int) = 2 := by
  have : ∀ d, d < 58 → 48 ≤ d → classV ((d : Nat) : Int) = 2 := by decide +kernel
  exact this d (by omega) h1
theorem dec_digit (u : Nat) : ∀ d ∈ Lib.decDigits u, 48 ≤ d.toNat ∧ d.toNat ≤ 57 := by
  induction u using Nat.strongRecOn with
  | _ u ih =>
    intro d hd
    rw [Lib.decDigits] at hd
    split at hd
    · simp only [List.mem_singleton] at hd
      rw [hd, UInt8.toNat_ofNat']; omega
    · rcases List.mem_append.1 hd with hd | hd
      · exact ih (u / 10) (by omega) d hd
      · simp only [List.mem_singleton] at hd
        rw [hd, UInt8.toNat_ofNat']; omega
theorem dec_short : ∀ (k u : Nat), u < 10 ^ (k + 1) → (Lib.decDigits u).length ≤ k + 1 := by
  intro k
  induction k with
  | zero => intro u h; rw [Lib.decDigits, dif_pos (by omega)]; simp
  | succ k ih =>
    intro u h
    rw [Lib.decDigits]
    split
    · simp
    · have : u / 10 < 10 ^ (k + 1) := by rw [Nat.pow_succ] at h; omega
      have := ih (u / 10) this
      simp; omega
theorem dec_pos (u : Nat) : 0 < (Lib.decDigits u).length := by
  rw [Lib.decDigits]; split <;> simp
def valL (l : List UInt8) (a : Int) : Int := l.foldl (fun a d => a * 10 + ((d.toNat : Int) - 48)) a
theorem val_dec (u : Nat) : valL (Lib.decDigits u) 0 = u := by
  induction u using Nat.strongRecOn with
  | _ u ih =>
    rw [Lib.decDigits]
    split
    · simp only [valL, List.foldl_cons, List.foldl_nil]
      rw [UInt8.toNat_ofNat']; omega
    · have := ih (u / 10) (by omega)
      unfold valL at this ⊢
      rw [List.foldl_append, this]
      simp only [List.foldl_cons, List.foldl_nil]
      rw [UInt8.toNat_ofNat']; omega
theorem num_digits (s : ByteArray) (hd : ∀ i (h : i < s.size), 48 ≤ (s[i]).toNat ∧ (s[i]).toNat ≤ 57) (h9 : s.size ≤ 9) : ∀ (f i : Nat) (a : Int), s.size + 1 ≤ i + f → i ≤ s.size → numberGo s f i a = (valL (s.data.toList.drop i) a, true) ∧ solidGo s f i = true := by
  intro f
  induction f with
  | zero => intro i a h1 h2; omega
  | succ f ih =>
    intro i a h1 h2
    by_cases h : i < s.size
    · have hb := hd i h
      have hg := get_eq s i h
      obtain ⟨r1, r2⟩ := rn_ascii s i h (by rw [hg]; omega)
      rw [hg] at r1
      have hc : classV (rn s i) = 2 := by rw [r1]; exact class_digit _ hb.1 hb.2
      obtain ⟨e1, e2⟩ := ih (i + 1) (a * 10 + (((s[i]).toNat : Int) - 48)) (by omega) (by omega)
      refine ⟨?_, ?_⟩
      · simp only [numberGo, if_pos h]
        rw [if_neg (by omega), if_pos hc, r2, r1, e1]
        have hl : i < s.data.toList.length := by rw [Array.length_toList]; exact h
        rw [List.drop_eq_getElem_cons hl]
        rfl
      · simp only [solidGo, if_pos h, hc, r2]
        rw [if_neg (by decide)]; exact e2
    · have e : i = s.size := by omega
      refine ⟨?_, by simp only [solidGo, if_neg h]⟩
      simp only [numberGo, if_neg h]
      rw [List.drop_eq_nil_of_le (by rw [Array.length_toList]; show s.size ≤ i; omega)]; rfl
theorem itoa_back (n : Int) (h0 : 0 ≤ n) (h1 : n ≤ 999999999) : numberV (itoaB n) = (n, true) ∧ wordsV (itoaB n) = [itoaB n] := by
  obtain ⟨u, rfl⟩ : ∃ u : Nat, n = u := ⟨n.toNat, by omega⟩
  have e : itoaB (u : Int) = ⟨(Lib.decDigits u).toArray⟩ := by unfold itoaB Lib.itoa; rw [if_neg (by omega)]; rfl
  obtain ⟨s, hs⟩ : ∃ s, s = itoaB (u : Int) := ⟨_, rfl⟩
  rw [← hs] at e ⊢
  have hz : s.size = (Lib.decDigits u).length := by rw [e]; rfl
  have h9 : s.size ≤ 9 := by rw [hz]; exact dec_short 8 u (by omega)
  have hd : ∀ i (h : i < s.size), 48 ≤ (s[i]).toNat ∧ (s[i]).toNat ≤ 57 := by
    intro i h
    subst e
    exact dec_digit u _ (List.getElem_mem (by rw [← hz]; exact h))
  obtain ⟨a, b⟩ := num_digits s hd h9 (s.size + 1) 0 0 (by omega) (by omega)
  refine ⟨?_, words_one s (by rw [hz]; exact dec_pos u) b⟩
  unfold numberV
  rw [a, List.drop_zero]
  congr 1
  rw [e]
  exact val_dec u
end Go.Proofs.YtebgloacobaocaaDoor
