import Derived.Test.YtebgloacobaocaaDoorWords
namespace Go.Proofs.YtebgloacobaocaaDoor
open Go Go.Lib CharsMath
set_option linter.unusedVariables false
theorem wordsGo_stop (s : ByteArray) (f i : Nat) (fr : Option Nat) (acc : List ByteArray) (h : ¬ i < s.size) : wordsGo s (f + 1) i fr acc = endF s fr acc := by
  simp only [wordsGo, if_neg h]
theorem wordsGo_fuel (s : ByteArray) : ∀ (f g i : Nat) (fr : Option Nat) (acc : List ByteArray), s.size + 1 ≤ i + f → s.size + 1 ≤ i + g → i ≤ s.size → wordsGo s f i fr acc = wordsGo s g i fr acc := by
  intro f
  induction f with
  | zero => intro g i fr acc h1 h2 h3; omega
  | succ f ih =>
    intro g i fr acc h1 h2 h3
    obtain ⟨g, rfl⟩ : ∃ q, g = q + 1 := ⟨g - 1, by omega⟩
    by_cases h : i < s.size
    · have a := wd_pos s i h
      have b := wd_le s i h
      simp only [wordsGo, if_pos h]
      exact ih g _ _ _ (by omega) (by omega) (by omega)
    · rw [wordsGo_stop _ _ _ _ _ h, wordsGo_stop _ _ _ _ _ h]
theorem step_acc (s : ByteArray) (cl : Int) (p : Nat) (fr : Option Nat) (pre acc : List ByteArray) : (stepF s cl p fr (pre ++ acc)).1 = (stepF s cl p fr acc).1 ∧ (stepF s cl p fr (pre ++ acc)).2 = pre ++ (stepF s cl p fr acc).2 := by
  cases fr <;> simp only [stepF] <;> split <;> simp
theorem end_acc (s : ByteArray) (fr : Option Nat) (pre acc : List ByteArray) : endF s fr (pre ++ acc) = pre ++ endF s fr acc := by
  cases fr <;> simp [endF]
theorem wordsGo_acc (s : ByteArray) : ∀ (f i : Nat) (fr : Option Nat) (pre acc : List ByteArray), wordsGo s f i fr (pre ++ acc) = pre ++ wordsGo s f i fr acc := by
  intro f
  induction f with
  | zero => intros; rfl
  | succ f ih =>
    intro i fr pre acc
    simp only [wordsGo]
    split
    · rw [(step_acc s _ _ fr pre acc).1, (step_acc s _ _ fr pre acc).2]; exact ih _ _ _ _
    · exact end_acc _ _ _ _
/-- a piece of a piece. -/
theorem extract_at {s t : ByteArray} {k a b : Nat} (h : At s k t) (hb : b ≤ t.size) (hab : a ≤ b) : s.extract (k + a) (k + b) = t.extract a b := by
  have hs := h.1
  have l1 : (s.extract (k + a) (k + b)).size = b - a := by rw [ByteArray.size_extract]; omega
  have l2 : (t.extract a b).size = b - a := by rw [ByteArray.size_extract]; omega
  apply ByteArray.ext_getElem
  · rw [l1, l2]
  · intro i h1 h2
    rw [ByteArray.getElem_extract, ByteArray.getElem_extract]
    have := h.2 (a + i) (by omega)
    rw [get_eq s _ (by omega), get_eq t _ (by omega)] at this
    rw [← this]
    congr 1; omega
/-- the walk over a tail. -/
theorem wordsGo_tail (s t : ByteArray) (k : Nat) (h : At s k t) (he : k + t.size = s.size) : ∀ (f i : Nat) (fr : Option Nat) (acc : List ByteArray), i ≤ t.size → (∀ a, fr = some a → a ≤ i) → wordsGo s f (k + i) (fr.map (k + ·)) acc = wordsGo t f i fr acc := by
  intro f
  induction f with
  | zero => intros; rfl
  | succ f ih =>
    intro i fr acc hi hf
    by_cases h1 : i < t.size
    · have d := decode_tail s t k i h he
      have e1 : rn s (k + i) = rn t i := by unfold rn; rw [d]
      have e2 : wd s (k + i) = wd t i := by unfold wd; rw [d]
      have hw := wd_le t i h1
      have hp := wd_pos t i h1
      simp only [wordsGo, if_pos h1, if_pos (show k + i < s.size by omega), e1, e2]
      have hst : (stepF s (classV (rn t i)) (k + i) (fr.map (k + ·)) acc) = ((stepF t (classV (rn t i)) i fr acc).1.map (k + ·), (stepF t (classV (rn t i)) i fr acc).2) := by
        cases fr with
        | none => simp only [stepF, Option.map]; split <;> rfl
        | some a =>
          simp only [stepF, Option.map]
          split
          · rw [extract_at h (by omega) (hf a rfl)]
          · rfl
      rw [hst, Nat.add_assoc]
      refine ih _ _ _ (by omega) ?_
      intro a ha
      cases fr with
      | none =>
        simp only [stepF] at ha
        split at ha
        · cases ha
        · injection ha with ha; omega
      | some b =>
        simp only [stepF] at ha
        split at ha
        · cases ha
        · injection ha with ha; have := hf b rfl; omega
    · rw [wordsGo_stop _ _ _ _ _ h1, wordsGo_stop _ _ _ _ _ (show ¬ k + i < s.size by omega)]
      cases fr with
      | none => rfl
      | some a =>
        simp only [endF, Option.map]
        rw [← he, extract_at h (Nat.le_refl _) (by have := hf a rfl; omega)]
/-- a blank between two texts parts their words. -/
theorem wordsGo_head (s x : ByteArray) (h : At s 0 x) (hb : (s.get! x.size).toNat < 128) (hs : x.size < s.size) (hc : classV ((s.get! x.size).toNat : Int) = 3) : ∀ (f i : Nat) (fr : Option Nat) (acc : List ByteArray), x.size + 1 ≤ i + f → i ≤ x.size → (∀ a, fr = some a → a ≤ i) → ∀ g, s.size + 1 ≤ i + g → ∃ q, s.size + 1 ≤ x.size + 1 + q ∧ wordsGo s g i fr acc = wordsGo s q (x.size + 1) none (wordsGo x f i fr acc) := by
  intro f
  induction f with
  | zero => intro i fr acc h1 h2; omega
  | succ f ih =>
    intro i fr acc h1 h2 hf g hg
    obtain ⟨g, rfl⟩ : ∃ q, g = q + 1 := ⟨g - 1, by omega⟩
    by_cases hi : i < x.size
    · have d := decode_head s x 0 i h hi (by rw [Nat.zero_add]; exact hb)
      rw [Nat.zero_add] at d
      have e1 : rn s i = rn x i := by unfold rn; rw [d]
      have e2 : wd s i = wd x i := by unfold wd; rw [d]
      have hw := wd_le x i hi
      have hp := wd_pos x i hi
      simp only [wordsGo, if_pos hi, if_pos (show i < s.size by omega), e1, e2]
      have hst : stepF s (classV (rn x i)) i fr acc = stepF x (classV (rn x i)) i fr acc := by
        cases fr with
        | none => rfl
        | some a =>
          simp only [stepF]
          split
          · have := extract_at (a := a) (b := i) h (by omega) (hf a rfl)
            rw [Nat.zero_add, Nat.zero_add] at this
            rw [this]
          · rfl
      rw [hst]
      refine ih _ _ _ (by omega) (by omega) ?_ g (by omega)
      intro a ha
      cases fr with
      | none =>
        simp only [stepF] at ha
        split at ha
        · cases ha
        · injection ha with ha; omega
      | some b =>
        simp only [stepF] at ha
        split at ha
        · cases ha
        · injection ha with ha; have := hf b rfl; omega
    · obtain rfl : i = x.size := by omega
      obtain ⟨r1, r2⟩ := rn_ascii s x.size hs hb
      refine ⟨g, by omega, ?_⟩
      rw [wordsGo_stop x f _ _ _ hi]
      simp only [wordsGo, if_pos hs, r1, r2]
      have hst : stepF s (classV ((s.get! x.size).toNat : Int)) x.size fr acc = (none, endF x fr acc) := by
        rw [hc]
        cases fr with
        | none => rfl
        | some a =>
          have := extract_at (a := a) (b := x.size) h (Nat.le_refl _) (hf a rfl)
          rw [Nat.zero_add, Nat.zero_add] at this
          simp only [stepF, if_true, endF, this]
      rw [hst]
theorem words_join (x y : ByteArray) (c : UInt8) (hc : c.toNat < 128) (h3 : classV (c.toNat : Int) = 3) : wordsV (x ++ ⟨#[c]⟩ ++ y) = wordsV x ++ wordsV y := by
  obtain ⟨s, hs⟩ : ∃ s, s = x ++ ⟨#[c]⟩ ++ y := ⟨_, rfl⟩
  rw [← hs]
  have z1 : (⟨#[c]⟩ : ByteArray).size = 1 := rfl
  have hsz : s.size = x.size + 1 + y.size := by rw [hs, ByteArray.size_append, ByteArray.size_append, z1]
  have ge : ∀ j (hj : j < s.size), s.get! j = if h1 : j < x.size then x[j] else if h2 : j < x.size + 1 then c else y[j - (x.size + 1)]'(by omega) := by
    intro j hj
    rw [get_eq s j hj]
    subst hs
    by_cases h1 : j < x.size
    · rw [dif_pos h1, ByteArray.getElem_append_left (by rw [ByteArray.size_append]; omega), ByteArray.getElem_append_left h1]
    · rw [dif_neg h1]
      by_cases h2 : j < x.size + 1
      · rw [dif_pos h2, ByteArray.getElem_append_left (by rw [ByteArray.size_append, z1]; omega), ByteArray.getElem_append_right (by omega)]
        have : j - x.size = 0 := by omega
        simp only [this]; rfl
      · rw [dif_neg h2, ByteArray.getElem_append_right (by rw [ByteArray.size_append, z1]; omega)]
        congr 1; rw [ByteArray.size_append, z1]
  have hx : At s 0 x := ⟨by omega, fun j hj => by rw [Nat.zero_add, ge j (by omega), dif_pos hj, get_eq x j hj]⟩
  have hy : At s (x.size + 1) y := ⟨by omega, fun j hj => by
    rw [ge _ (by omega), dif_neg (by omega), dif_neg (by omega), get_eq y j hj]; congr 1; omega⟩
  have gc : s.get! x.size = c := by rw [ge _ (by omega), dif_neg (by omega), dif_pos (by omega)]
  obtain ⟨q, hq, e⟩ := wordsGo_head s x hx (by rw [gc]; exact hc) (by omega) (by rw [gc]; exact h3) (x.size + 1) 0 none [] (by omega) (by omega) (fun a h => by cases h) (s.size + 1) (by omega)
  unfold wordsV
  rw [e]
  have t := wordsGo_tail s y (x.size + 1) hy (by omega) q 0 none (wordsGo x (x.size + 1) 0 none []) (by omega) (fun a h => by cases h)
  rw [Nat.add_zero] at t
  rw [show (none : Option Nat).map (x.size + 1 + ·) = none from rfl] at t
  rw [t]
  have a := wordsGo_acc y q 0 none (wordsGo x (x.size + 1) 0 none []) []
  rw [List.append_nil] at a
  rw [a, wordsGo_fuel y q (y.size + 1) 0 none [] (by omega) (by omega) (by omega)]
end Go.Proofs.YtebgloacobaocaaDoor
