import Derived.Test.YtaidlcnfkdaijaaPieces
namespace Go.Proofs.Ytaidlcnfkdaijaa
open Go.ChangeShapes Go.WideShapes Go.ChangeAt Go.RowKit
set_option linter.unusedVariables false
/-- a group read off bytes: its number and how many bytes it takes. -/
def gN (t : List Nat) : Int × Int := resG t (t.length + 1) 0
/-- the reference's next piece. -/
def rS (old : List Nat) : List Nat → Option (List Nat × List Nat)
  | [] => none
  | k :: t =>
    if k = 1 then
      if (gN t).2 = 0 then none else
      if (gN (t.drop (gN t).2.toNat)).2 = 0 then none else
      if (gN (t.drop (gN t).2.toNat)).1 = 0 then none else
      if (old.length : Int) < (gN t).1 then none else
      if (old.length : Int) - (gN t).1 < (gN (t.drop (gN t).2.toNat)).1 then none else
      some ((old.drop (gN t).1.toNat).take (gN (t.drop (gN t).2.toNat)).1.toNat, (t.drop (gN t).2.toNat).drop (gN (t.drop (gN t).2.toNat)).2.toNat)
    else if k = 2 then
      if (gN t).2 = 0 then none else
      if (gN t).1 = 0 then none else
      if ((t.drop (gN t).2.toNat).length : Int) < (gN t).1 then none else
      some ((t.drop (gN t).2.toNat).take (gN t).1.toNat, (t.drop (gN t).2.toNat).drop (gN t).1.toNat)
    else none
theorem numS_gN (t : List Nat) : numS t = if (gN t).2 = 0 ∨ 4611686018427387904 < (gN t).1 then (-1, 0) else ((gN t).1, (gN t).2.toNat) := rfl
theorem rS_eq (old b : List Nat) (h1 : old.length ≤ 1000) (h2 : b.length ≤ 1000) : rS old b = nextS old b := by
  cases b with
  | nil => rfl
  | cons k t =>
    have i1 := resG_in t (t.length + 1) 0
    simp only [List.length_cons] at h2
    simp only [rS, nextS]
    by_cases k1 : k = 1
    · rw [if_pos k1, if_pos k1]
      by_cases a : (gN t).2 = 0 ∨ 4611686018427387904 < (gN t).1
      · have e : numS t = (-1, 0) := by rw [numS_gN t, if_pos a]
        rw [e]
        simp only
        rw [if_pos (show (-1 : Int) < 0 by omega)]
        rcases a with a | a
        · rw [if_pos a]
        · rw [if_pos (show (old.length : Int) < (gN t).1 by omega)]
          repeat' (split; rfl)
          rfl
      · have e : numS t = ((gN t).1, (gN t).2.toNat) := by rw [numS_gN t, if_neg a]
        have p : 0 ≤ (gN t).1 := i1.1
        rw [e, if_neg (show ¬ (gN t).2 = 0 from fun q => a (.inl q))]
        simp only
        rw [if_neg (show ¬ (gN t).1 < 0 by omega)]
        have i2 := resG_in (t.drop (gN t).2.toNat) ((t.drop (gN t).2.toNat).length + 1) 0
        obtain ⟨t1, ht1⟩ : ∃ t1, t1 = t.drop (gN t).2.toNat := ⟨_, rfl⟩
        rw [← ht1] at i2 ⊢
        have p2 : 0 ≤ (gN t1).1 := i2.1
        by_cases a2 : (gN t1).2 = 0 ∨ 4611686018427387904 < (gN t1).1
        · rw [numS_gN t1, if_pos a2]
          simp only
          rw [if_pos (show (-1 : Int) < 1 by omega)]
          rcases a2 with a2 | a2
          · rw [if_pos a2]
          · rw [if_pos (show (old.length : Int) - (gN t).1 < (gN t1).1 by omega)]
            repeat' (split; rfl)
            rfl
        · have e2 : numS t1 = ((gN t1).1, (gN t1).2.toNat) := by rw [numS_gN t1, if_neg a2]
          rw [e2, if_neg (show ¬ (gN t1).2 = 0 from fun q => a2 (.inl q))]
          simp only
          by_cases z : (gN t1).1 = 0
          · rw [if_pos z, if_pos (show (gN t1).1 < 1 by omega)]
          · rw [if_neg z, if_neg (show ¬ (gN t1).1 < 1 by omega)]
    · rw [if_neg k1, if_neg k1]
      by_cases k2 : k = 2
      · rw [if_pos k2, if_pos k2]
        have p : 0 ≤ (gN t).1 := i1.1
        by_cases a : (gN t).2 = 0 ∨ 4611686018427387904 < (gN t).1
        · have e : numS t = (-1, 0) := by rw [numS_gN t, if_pos a]
          rw [e]
          simp only
          rw [if_pos (show (-1 : Int) < 1 by omega)]
          rcases a with a | a
          · rw [if_pos a]
          · rw [if_pos (show ((t.drop (gN t).2.toNat).length : Int) < (gN t).1 by rw [List.length_drop]; omega)]
            repeat' (split; rfl)
            rfl
        · have e : numS t = ((gN t).1, (gN t).2.toNat) := by rw [numS_gN t, if_neg a]
          rw [e, if_neg (show ¬ (gN t).2 = 0 from fun q => a (.inl q))]
          simp only
          by_cases z : (gN t).1 = 0
          · rw [if_pos z, if_pos (show (gN t).1 < 1 by omega)]
          · rw [if_neg z, if_neg (show ¬ (gN t).1 < 1 by omega)]
      · rw [if_neg k2, if_neg k2]
theorem rS_len (old b p rest : List Nat) (h : rS old b = some (p, rest)) (h1 : old.length ≤ 1000) (h2 : b.length ≤ 1000) : rest.length < b.length ∧ 0 < p.length ∧ p.length ≤ old.length + b.length :=
  nextS_len old b p rest (by rw [← rS_eq old b h1 h2]; exact h)
end Go.Proofs.Ytaidlcnfkdaijaa
