import Derived.Test.YtonnadedbbfapaaCalls
namespace Go.Proofs.Ytonnadedbbfapaa
open Go.ChangeShapes Go.WideShapes Go.ChangeAt Go.RowKit
theorem best_bd (ys : List Int) : ∀ k, 1 ≤ bestGo ys k ∧ bestGo ys k ≤ k + 1 := by
  intro k
  induction k with
  | zero => simp [bestGo]
  | succ k ih => simp only [bestGo]; split <;> omega
def nextX (most : Int) (xs : List Int) (c : Int) : List Int :=
  if (xs.length : Int) + 1 ≤ most then xs ++ [c] else (xs ++ [c]).eraseIdx (bestGo (xs ++ [c]) (xs.length - 2))
theorem getD_snoc (xs : List Int) (c : Int) (j : Nat) : (xs ++ [c]).getD j 0 = if j < xs.length then xs.getD j 0 else if j = xs.length then c else 0 := by
  by_cases h : j < xs.length
  · rw [if_pos h]; simp [List.getD, List.getElem?_append_left h]
  · rw [if_neg h]
    by_cases h2 : j = xs.length
    · subst h2; rw [if_pos rfl]; simp [List.getD]
    · rw [if_neg h2]; simp [List.getD, List.getElem?_append_right (by omega : xs.length ≤ j), show j - xs.length ≠ 0 from by omega]
theorem getD_erase (ys : List Int) (b j : Nat) : (ys.eraseIdx b).getD j 0 = if j < b then ys.getD j 0 else ys.getD (j + 1) 0 := by
  simp only [List.getD, List.getElem?_eraseIdx]; split <;> rfl
structure Inv (every : Int) (most : Int) (i : Nat) (xs : List Int) : Prop where
  l1 : 1 ≤ xs.length
  lm : (xs.length : Int) ≤ most
  l2 : 1 ≤ i → 2 ≤ xs.length
  le : (i : Int) < most → xs.length = i + 1
  first : xs.getD 0 0 = 0
  last : lastX xs = i * every
  asc : ∀ j, j + 1 < xs.length → xs.getD j 0 < xs.getD (j + 1) 0
  rng : ∀ j, j < xs.length → 0 ≤ xs.getD j 0 ∧ xs.getD j 0 ≤ i * every ∧ xs.getD j 0 % every = 0
theorem Inv.start (every most : Int) (h : 2 ≤ most) : Inv every most 0 [0] :=
  ⟨by simp, by simp; omega, by omega, by simp, rfl, by simp [lastX], by simp, fun j hj => by obtain rfl : j = 0 := by simp at hj; exact hj
                                                                                             simp⟩
theorem Inv.wants {every most : Int} {i : Nat} {xs : List Int} (v : Inv every most i xs) (he : 1 ≤ every) : wantsB every (((i : Int) + 1) * every) xs = true := by
  have h0 : (0 : Int) ≤ (i : Int) * every := Int.mul_nonneg (by omega) (by omega)
  have h1 : ((i : Int) + 1) * every = i * every + every := by rw [Int.add_mul, Int.one_mul]
  unfold wantsB
  rw [v.last, h1]
  simp only [Bool.and_eq_true, decide_eq_true_eq, beq_iff_eq]
  refine ⟨⟨by omega, ?_⟩, by omega⟩
  rw [← h1]; exact Int.mul_emod_left _ _
theorem Inv.snoc {every most : Int} {i : Nat} {xs : List Int} (v : Inv every most i xs) (he : 1 ≤ every) :
    let ys := xs ++ [((i : Int) + 1) * every]
    ys.getD 0 0 = 0 ∧ lastX ys = ((i : Int) + 1) * every ∧ (∀ j, j + 1 < ys.length → ys.getD j 0 < ys.getD (j + 1) 0) ∧ (∀ j, j < ys.length → 0 ≤ ys.getD j 0 ∧ ys.getD j 0 ≤ ((i : Int) + 1) * every ∧ ys.getD j 0 % every = 0) := by
  intro ys
  have h0 : (0 : Int) ≤ (i : Int) * every := Int.mul_nonneg (by omega) (by omega)
  have h1 : ((i : Int) + 1) * every = i * every + every := by rw [Int.add_mul, Int.one_mul]
  have hl : ys.length = xs.length + 1 := by simp [ys]
  have l1 := v.l1
  have g : ∀ j, ys.getD j 0 = if j < xs.length then xs.getD j 0 else if j = xs.length then ((i : Int) + 1) * every else 0 := getD_snoc xs _
  refine ⟨?_, ?_, ?_, ?_⟩
  · rw [g, if_pos (by omega)]; exact v.first
  · unfold lastX; rw [hl, g, if_neg (by omega), if_pos (by omega)]
  · intro j hj
    rw [hl] at hj
    rw [g j, g (j + 1), if_pos (by omega)]
    by_cases h2 : j + 1 < xs.length
    · rw [if_pos h2]; exact v.asc j h2
    · rw [if_neg h2, if_pos (by omega)]
      have := (v.rng j (by omega)).2.1; omega
  · intro j hj
    rw [hl] at hj
    rw [g j]
    by_cases h2 : j < xs.length
    · rw [if_pos h2]; have := v.rng j h2; exact ⟨this.1, by omega, this.2.2⟩
    · rw [if_neg h2, if_pos (by omega)]; exact ⟨by omega, by omega, Int.mul_emod_left _ _⟩
theorem Inv.step {every most : Int} {i : Nat} {xs : List Int} (v : Inv every most i xs) (he : 1 ≤ every) (hm : 2 ≤ most) : Inv every most (i + 1) (nextX most xs (((i : Int) + 1) * every)) := by
  obtain ⟨s1, s2, s3, s4⟩ := v.snoc he
  have l1 := v.l1; have l2 := v.l2; have lm := v.lm; have le := v.le
  obtain ⟨ys, hys⟩ : ∃ ys, ys = xs ++ [((i : Int) + 1) * every] := ⟨_, rfl⟩
  have hl : ys.length = xs.length + 1 := by rw [hys]; simp
  rw [← hys] at s1 s2 s3 s4
  unfold nextX
  rw [← hys]
  have hc : (((i + 1 : Nat) : Int)) * every = ((i : Int) + 1) * every := by simp
  by_cases hr : (xs.length : Int) + 1 ≤ most
  · rw [if_pos hr]
    exact ⟨by omega, by omega, by omega, by intro h; have := le (by omega); omega, s1, by rw [s2, hc], s3, by rw [hc]; exact s4⟩
  · rw [if_neg hr]
    have hi : 1 ≤ i := by
      by_cases hi : 1 ≤ i
      · exact hi
      · have := le (by omega); omega
    have l2' := l2 hi
    obtain ⟨b1, b2⟩ := best_bd ys (xs.length - 2)
    obtain ⟨b, hb⟩ : ∃ b, b = bestGo ys (xs.length - 2) := ⟨_, rfl⟩
    rw [← hb] at b1 b2 ⊢
    have hel : (ys.eraseIdx b).length = xs.length := by rw [List.length_eraseIdx, if_pos (by omega)]; omega
    refine ⟨by omega, by omega, by omega, by intro h; have := le (by omega); omega, ?_, ?_, ?_, ?_⟩
    · rw [getD_erase, if_pos (by omega)]; exact s1
    · unfold lastX; rw [hel, getD_erase, if_neg (by omega), hc, ← s2]; unfold lastX; congr 1; omega
    · intro j hj
      rw [hel] at hj
      rw [getD_erase, getD_erase]
      by_cases h1 : j + 1 < b
      · rw [if_pos (by omega), if_pos h1]; exact s3 j (by omega)
      · rw [if_neg h1]
        by_cases h2 : j < b
        · rw [if_pos h2]
          have a := s3 j (by omega); have c := s3 (j + 1) (by omega); omega
        · rw [if_neg h2]; exact s3 (j + 1) (by omega)
    · intro j hj
      rw [hel] at hj
      rw [getD_erase, hc]
      split
      · exact s4 j (by omega)
      · exact s4 (j + 1) (by omega)
theorem Inv.mono {every most : Int} {i : Nat} {xs : List Int} (v : Inv every most i xs) : ∀ d j, j + d < xs.length → xs.getD j 0 ≤ xs.getD (j + d) 0 := by
  intro d
  induction d with
  | zero => intro j _; exact Int.le_refl _
  | succ d ih =>
    intro j hj
    have a := ih j (by omega)
    have b := v.asc (j + d) (by omega)
    rw [show j + (d + 1) = j + d + 1 from by omega]; omega
/-- what Before finds in an ascending list that begins with 0. -/
theorem before_is {every most : Int} {i : Nat} {xs : List Int} (v : Inv every most i xs) (c : Int) (hc : 0 ≤ c) :
    ∀ k, 1 ≤ k → k ≤ xs.length → ∃ q, q < k ∧ beforeGo c xs k = xs.getD q 0 ∧ xs.getD q 0 ≤ c ∧ ∀ j, q < j → j < k → c < xs.getD j 0 := by
  intro k
  induction k with
  | zero => intro h; omega
  | succ k ih =>
    intro _ hk
    simp only [beforeGo]
    by_cases hle : xs.getD k 0 ≤ c
    · rw [if_pos hle]; exact ⟨k, by omega, rfl, hle, fun j h1 h2 => by omega⟩
    · rw [if_neg hle]
      by_cases h0 : k = 0
      · subst h0; rw [v.first] at hle; omega
      · obtain ⟨q, q1, q2, q3, q4⟩ := ih (by omega) (by omega)
        refine ⟨q, by omega, q2, q3, fun j h1 h2 => ?_⟩
        by_cases hjk : j = k
        · subst hjk; omega
        · exact q4 j h1 (by omega)
theorem before_neg {every most : Int} {i : Nat} {xs : List Int} (v : Inv every most i xs) (c : Int) (hc : c < 0) : ∀ k, k ≤ xs.length → beforeGo c xs k = 0 := by
  intro k
  induction k with
  | zero => intro _; rfl
  | succ k ih => intro hk; simp only [beforeGo]; rw [if_neg (by have := (v.rng k (by omega)).1; omega)]; exact ih (by omega)
set_option maxHeartbeats 1000000 in
theorem add_any {w : World} {B g h cap i : Nat} {every most : Int} {xs : List Int} (k : KAt w B g every most h cap xs) (v : Inv every most i xs) (he : 1 ≤ every) (he2 : every ≤ 1000000) (hm : 2 ≤ most) (hm2 : most ≤ 64) (hi : i ≤ 100000) :
    Calls Try.prog 10 #[.pointer (some ⟨g, 0, none⟩), .int .i64 (((i : Int) + 1) * every)] w fun e w' => ∃ r, e = .returned (.tuple #[r, .int .i64 0]) ∧ ∃ h' cap', KAt w' B g every most h' cap' (nextX most xs (((i : Int) + 1) * every)) ∧ Below B w w' := by
  have l1 := v.l1; have lm := v.lm
  have h0 : (0 : Int) ≤ ((i : Int) + 1) * every := Int.mul_nonneg (by omega) (by omega)
  have h1 : ((i : Int) + 1) * every ≤ 200000 * 1000000 := Int.mul_le_mul (by omega) he2 (by omega) (by omega)
  unfold nextX
  by_cases hr : (xs.length : Int) + 1 ≤ most
  · rw [if_pos hr]
    refine (add_room _ k he l1 (by omega) (by omega) (by omega) (v.wants he) hr).mono fun e w' ⟨e1, h', cap', k', f, _⟩ => ⟨_, e1, h', cap', k', fr_below k f⟩
  · rw [if_neg hr]
    have hl2 : 2 ≤ xs.length := by omega
    refine (add_drop _ rfl k he l1 (by omega) (by omega) (by omega) (v.wants he) hl2 (by omega)).mono fun e w' ⟨b, e1, _, _, h', cap', k', f, _⟩ => ⟨_, e1, h', cap', k', fr_below k f⟩
end Go.Proofs.Ytonnadedbbfapaa
