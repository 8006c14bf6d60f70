import Derived.Test.YtdkfimejabanlaaDoorTp
namespace Go.Proofs.YtdkfimejabanlaaDoor
open Go.ChangeShapes Go.WideShapes Go.ChangeAt Go.RowKit
set_option linter.unusedVariables false
set_option linter.unusedSimpArgs false
/-- a variable. -/
def varT (n : Int) : TT := .mk 7 ⟨#[]⟩ n []
theorem loop_len (s : ByteArray) : ∀ (k i : Nat) (r : List UInt8), k = s.size - i → (ByteArray.toList.loop s i r).length = r.length + k := by
  intro k
  induction k with
  | zero =>
    intro i r h
    rw [ByteArray.toList.loop]
    rw [if_neg (by omega)]
    simp
  | succ k ih =>
    intro i r h
    rw [ByteArray.toList.loop]
    rw [if_pos (by omega), ih (i + 1) _ (by omega)]
    simp; omega
theorem toList_len (s : ByteArray) : s.toList.length = s.size := by
  unfold ByteArray.toList
  rw [loop_len s s.size 0 [] (by omega)]; simp
theorem toList_nil {s : ByteArray} (h : s.toList.isEmpty = true) : s = ⟨#[]⟩ := by
  have h2 : s.toList = [] := List.isEmpty_iff.1 h
  have h3 := congrArg List.length h2
  have h4 : s.toList.length = s.size := toList_len s
  apply ByteArray.ext
  apply Array.eq_empty_of_size_eq_zero
  show s.size = 0
  rw [← h4, h3]; rfl
theorem shp_var {V : TT} (h : shp V = true) (h7 : V.k = 7) : V.args = [] ∧ V.nm = ⟨#[]⟩ := by
  rw [shp_eq, Bool.and_eq_true] at h
  have h1 := h.1
  have h2 := (head_var h1).2.2.2.2
  rw [h7] at h2
  have h0 : (V.args.length : Int) = 0 := h2
  refine ⟨List.length_eq_zero_iff.1 (by omega), ?_⟩
  unfold headOk at h1
  simp only [Bool.and_eq_true] at h1
  have h3 := h1.1.1.1.2
  rw [h7] at h3
  have h4 : emptyB V.nm = true := by
    cases hb : emptyB V.nm with
    | true => rfl
    | false => rw [hb] at h3; cases h3
  unfold emptyB at h4
  exact toList_nil h4
end Go.Proofs.YtdkfimejabanlaaDoor
