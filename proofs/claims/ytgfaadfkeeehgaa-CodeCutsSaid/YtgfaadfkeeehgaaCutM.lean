import Derived.Test.YtgfaadfkeeehgaaConc
namespace Go.Proofs.Ytgfaadfkeeehgaa
open Go.ChangeShapes Go.WideShapes Go.ChangeAt Go.RowKit
set_option linter.unusedVariables false
theorem resG_big (bs : List Nat) (h : ∀ x ∈ bs, 128 ≤ x) : ∀ f k, resG bs f k = (0, 0) := by
  intro f
  induction f with
  | zero => intro k; rfl
  | succ f ih =>
    intro k
    simp only [resG]
    split
    · rename_i hk
      have hx : 128 ≤ bs.getD k 0 := by
        rw [List.getD, List.getElem?_eq_getElem hk]; exact h _ (List.getElem_mem hk)
      split
      · rfl
      · rw [if_neg (by omega)]; exact ih (k + 1)
    · rfl
theorem putF_take (f : Nat) : ∀ m c, c < (putF f m).length → ∀ x ∈ (putF f m).take c, 128 ≤ x := by
  induction f with
  | zero => intro m c hc x hx; simp only [putF, List.length_singleton] at hc; obtain rfl : c = 0 := by omega
            simp at hx
  | succ f ih =>
    intro m c hc x hx
    by_cases h128 : m < 128
    · rw [putF_small _ _ h128] at hc hx
      simp only [List.length_singleton] at hc
      obtain rfl : c = 0 := by omega
      simp at hx
    · have hp : putF (f + 1) m = (m % 128 + 128) :: putF f (m / 128) := by simp only [putF]; rw [if_neg h128]
      rw [hp] at hc hx
      cases c with
      | zero => simp at hx
      | succ c =>
        rw [List.take_succ_cons, List.mem_cons] at hx
        rcases hx with rfl | hx
        · omega
        · exact ih (m / 128) c (by simpa using hc) x hx
theorem opG_cut (u c : Nat) (h : c < (putF 9 u).length) : opG true ((putF 9 u).take c) = (0, -1) := by
  show operG _ = _
  unfold operG
  rw [resG_big _ (putF_take 9 u c h)]
  rfl
theorem getS_cut (o : Nat) (a b : Int) (c : Nat) (ho : o < 64) (ha1 : -9223372036854775808 ≤ a) (ha2 : a < 9223372036854775808) (hc0 : 0 < c) (hc : c < (addS o a b).length) : (getS ((addS o a b).take c)).2 = 0 := by
  obtain ⟨f1, f2, f3, f4⟩ := opN_facts o a b ho
  obtain ⟨c, rfl⟩ : ∃ d, c = d + 1 := ⟨c - 1, by omega⟩
  unfold addS at hc ⊢
  rw [List.append_assoc, List.singleton_append] at hc ⊢
  rw [List.length_cons] at hc
  rw [List.take_succ_cons, getS_cons, f3, f4]
  by_cases ha : a = 0
  · rw [if_pos ha, List.nil_append] at hc ⊢
    by_cases hb : b = 0
    · rw [if_pos hb] at hc; simp at hc
    · rw [if_neg hb] at hc ⊢
      rw [show decide (a ≠ 0) = false from decide_eq_false (fun h => h ha), show decide (b ≠ 0) = true from decide_eq_true hb]
      rw [show opG false ((putF 9 (foldN b).toNat).take c) = (0, 0) from rfl]
      simp only
      rw [if_neg (by omega), Int.toNat_zero, List.drop_zero, opG_cut _ c (by omega)]
      rfl
  · rw [if_neg ha] at hc ⊢
    rw [show decide (a ≠ 0) = true from decide_eq_true ha]
    by_cases hlt : c < (putF 9 (foldN a).toNat).length
    · rw [List.take_append_of_le_length (by omega), opG_cut _ c hlt]
      rfl
    · obtain ⟨d, rfl⟩ : ∃ d, c = (putF 9 (foldN a).toNat).length + d := ⟨c - (putF 9 (foldN a).toNat).length, by omega⟩
      by_cases hb : b = 0
      · rw [if_pos hb, List.append_nil] at hc; omega
      · rw [if_neg hb, List.length_append] at hc
        rw [if_neg hb, List.take_length_add_append, opG_put a _ ha1 ha2 ha, show decide (b ≠ 0) = true from decide_eq_true hb]
        simp only
        rw [if_neg (by omega), Int.toNat_natCast, List.drop_left, opG_cut _ d (by omega)]
        rfl
/-- which instruction ends at a cut. -/
def findC : List (Int × Int × Int) → Nat → Option Nat
  | [], cut => if cut = 0 then some 0 else none
  | x :: l, cut => if cut = 0 then some 0 else if cut < (putS x.1 x.2.1 x.2.2).length then none else (findC l (cut - (putS x.1 x.2.1 x.2.2).length)).map (· + 1)
theorem findC_iff (l : List (Int × Int × Int)) (h : ∀ x ∈ l, Fine x) : ∀ cut j, findC l cut = some j ↔ j ≤ l.length ∧ (code (l.take j)).length = cut := by
  induction l with
  | nil =>
    intro cut j
    simp only [findC, List.take_nil, List.length_nil]
    by_cases hc : cut = 0
    · subst hc; simp [code]; omega
    · simp [code, hc]; omega
  | cons x l ih =>
    intro cut j
    have hx := h x (List.mem_cons_self ..)
    have hl := fun y hy => h y (List.mem_cons_of_mem x hy)
    have hpos : 0 < (putS x.1 x.2.1 x.2.2).length := by
      obtain ⟨c, t, e⟩ := addS_ne x.1.toNat x.2.1 x.2.2
      rw [putS_fine x hx, e]; simp
    simp only [findC]
    cases j with
    | zero =>
      simp only [List.take_zero]
      by_cases hc : cut = 0
      · rw [if_pos hc]; simp [code, hc]
      · rw [if_neg hc]
        have : ¬ (code []).length = cut := by simp [code]; omega
        simp only [this, and_false, iff_false]
        split
        · simp
        · cases findC l (cut - (putS x.1 x.2.1 x.2.2).length) <;> simp
    | succ j =>
      have e : code ((x :: l).take (j + 1)) = putS x.1 x.2.1 x.2.2 ++ code (l.take j) := rfl
      rw [e, List.length_append]
      by_cases hc : cut = 0
      · rw [if_pos hc]; simp; omega
      · rw [if_neg hc]
        by_cases hlt : cut < (putS x.1 x.2.1 x.2.2).length
        · rw [if_pos hlt]; simp; omega
        · rw [if_neg hlt]
          have := ih hl (cut - (putS x.1 x.2.1 x.2.2).length) j
          have q : (findC l (cut - (putS x.1 x.2.1 x.2.2).length)).map (· + 1) = some (j + 1) ↔ findC l (cut - (putS x.1 x.2.1 x.2.2).length) = some j := by
            cases findC l (cut - (putS x.1 x.2.1 x.2.2).length) <;> simp
          rw [q, this, List.length_cons]
          omega
theorem allS_cut (l : List (Int × Int × Int)) (h : ∀ x ∈ l, Fine x) : ∀ cut, cut ≤ (code l).length → allS (((code l).take cut).length + 1) ((code l).take cut) = (findC l cut).map (fun j => l.take j) := by
  induction l with
  | nil => intro cut hc; simp [code] at hc; subst hc; rfl
  | cons x l ih =>
    intro cut hc
    have hx := h x (List.mem_cons_self ..)
    have hl := fun y hy => h y (List.mem_cons_of_mem x hy)
    have hp := putS_fine x hx
    have ho : x.1.toNat < 64 := by have := hx.o1; have := hx.o2; omega
    have e : code (x :: l) = putS x.1 x.2.1 x.2.2 ++ code l := rfl
    rw [e] at hc ⊢
    rw [List.length_append] at hc
    obtain ⟨c, t, hct⟩ := addS_ne x.1.toNat x.2.1 x.2.2
    simp only [findC]
    by_cases h0 : cut = 0
    · subst h0; rfl
    · rw [if_neg h0]
      by_cases hlt : cut < (putS x.1 x.2.1 x.2.2).length
      · rw [if_pos hlt, List.take_append_of_le_length (by omega), hp]
        rw [hp] at hlt
        have hg := getS_cut x.1.toNat x.2.1 x.2.2 cut ho hx.a1 hx.a2 (by omega) hlt
        obtain ⟨d, rfl⟩ : ∃ d, cut = d + 1 := ⟨cut - 1, by omega⟩
        rw [hct, List.take_succ_cons] at hg ⊢
        rw [allS_step, if_pos hg]
        rfl
      · rw [if_neg hlt]
        obtain ⟨d, rfl⟩ : ∃ d, cut = (putS x.1 x.2.1 x.2.2).length + d := ⟨cut - (putS x.1 x.2.1 x.2.2).length, by omega⟩
        rw [List.take_length_add_append, Nat.add_sub_cancel_left]
        have hi := ih hl d (by omega)
        rw [hp]
        have hg := getS_add x.1.toNat x.2.1 x.2.2 ((code l).take d) ho hx.a1 hx.a2 hx.b1 hx.b2
        have e2 : addS x.1.toNat x.2.1 x.2.2 ++ (code l).take d = c :: (t ++ (code l).take d) := by rw [hct]; rfl
        have hpos : 0 < (addS x.1.toNat x.2.1 x.2.2).length := by rw [hct]; simp
        rw [e2, allS_step, ← e2, hg]
        simp only
        rw [if_neg (by omega), Int.toNat_natCast, List.drop_left, hi, Int.toNat_of_nonneg hx.o1]
        cases findC l d <;> rfl
end Go.Proofs.Ytgfaadfkeeehgaa
