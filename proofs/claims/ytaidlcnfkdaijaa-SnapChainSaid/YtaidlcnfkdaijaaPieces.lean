import Derived.Test.YtaidlcnfkdaijaaNext
import Derived.Laws.MakeOwn
namespace Go.Proofs.Ytaidlcnfkdaijaa
open Go.ChangeShapes Go.WideShapes Go.ChangeAt Go.RowKit
set_option linter.unusedVariables false
/-- the pieces of which a patch is made. -/
def piecesS (old : List Nat) : Nat → List Nat → Option (List (List Nat))
  | 0, _ => none
  | _ + 1, [] => some []
  | f + 1, k :: t => match nextS old (k :: t) with
    | none => none
    | some (p, rest) => (piecesS old f rest).map (p :: ·)
theorem nextS_len (old b p rest : List Nat) (h : nextS old b = some (p, rest)) : rest.length < b.length ∧ 0 < p.length ∧ p.length ≤ old.length + b.length := by
  cases b with
  | nil => cases h
  | cons k t =>
    simp only [nextS] at h
    have i1 := numS_in t
    have i2 := numS_in (t.drop (numS t).2)
    split at h
    · split at h
      · cases h
      split at h
      · cases h
      split at h
      · cases h
      split at h
      · cases h
      injection h with h
      injection h with h1 h2
      subst h1; subst h2
      simp only [List.length_drop, List.length_take, List.length_cons]
      omega
    · split at h
      · split at h
        · cases h
        split at h
        · cases h
        injection h with h
        injection h with h1 h2
        subst h1; subst h2
        rename_i q1 q2
        simp only [List.length_drop, List.length_take, List.length_cons] at q2 ⊢
        omega
      · cases h
theorem piecesS_fuel (old : List Nat) (f : Nat) : ∀ (b : List Nat), b.length < f → piecesS old f b = piecesS old (b.length + 1) b := by
  induction f using Nat.strongRecOn with
  | _ f ih =>
    intro b hb
    cases f with
    | zero => omega
    | succ f =>
      cases b with
      | nil => rfl
      | cons k t =>
        simp only [piecesS, List.length_cons]
        cases hx : nextS old (k :: t) with
        | none => rfl
        | some pr =>
          obtain ⟨p, rest⟩ := pr
          have hl := (nextS_len old _ p rest hx).1
          simp only [List.length_cons] at hl hb
          simp only
          rw [ih f (by omega) rest (by omega)]
          by_cases hf : t.length + 1 < f + 1
          · rw [ih (t.length + 1) (by omega) rest (by omega)]
          · rw [show t.length + 1 = f from by omega, ih f (by omega) rest (by omega)]
def PS (old b : List Nat) : Option (List (List Nat)) := piecesS old (b.length + 1) b
theorem PS_step (old : List Nat) (b : List Nat) (h : 0 < b.length) : PS old b = match nextS old b with | none => none | some (p, rest) => (PS old rest).map (p :: ·) := by
  cases b with
  | nil => simp at h
  | cons k t =>
    unfold PS
    simp only [piecesS, List.length_cons]
    cases hx : nextS old (k :: t) with
    | none => rfl
    | some pr =>
      obtain ⟨p, rest⟩ := pr
      have hl := (nextS_len old _ p rest hx).1
      simp only [List.length_cons] at hl
      simp only
      rw [piecesS_fuel old (t.length + 1) rest (by omega)]
/-- how much a reader has left. -/
def lenAt (w : World) (v : Value) : Nat := match v with
  | .pointer (some a) => match w.cell? (a.add 1) with
    | some (.slice _ n _) => n
    | _ => 0
  | _ => 0
theorem lenAt_eq {w : World} {g n cap : Nat} {ov : Value} {A : Option Addr} (r : RObj w g ov (.slice A n cap)) : lenAt w (.pointer (some ⟨g, 0, none⟩)) = n := by
  have e : (⟨g, 0, none⟩ : Addr).add 1 = ⟨g, 1, none⟩ := by
    have h := Go.WideShapes.add_plain g 0 1
    simpa using h
  have hc := r.c1
  unfold lenAt
  simp only [e, hc]
end Go.Proofs.Ytaidlcnfkdaijaa
