import Derived.Test.YtgfaadfkeeehgaaCutM
import Derived.Test.YtgfaadfkeeehgaaOpen
import Derived.Maps.OwnSet
import Derived.Maps.OwnOps
namespace Go.Proofs.Ytgfaadfkeeehgaa
open Go.ChangeShapes Go.WideShapes Go.ChangeAt Go.RowKit Go.Maps
set_option linter.unusedVariables false
def clen (xs : List (Int × Int × Int)) (k : Nat) : Nat := (code (xs.take k)).length
theorem clen_succ (xs : List (Int × Int × Int)) (h : ∀ x ∈ xs, Fine x) (k : Nat) (hk : k < xs.length) : clen xs k < clen xs (k + 1) := by
  obtain ⟨y, m, e⟩ : ∃ y m, xs.drop k = y :: m := ⟨xs[k], xs.drop (k + 1), List.drop_eq_getElem_cons hk⟩
  obtain ⟨t1, _, _⟩ := take_succ xs k y m e
  have hy : y ∈ xs := by have : y ∈ xs.drop k := by rw [e]; exact List.mem_cons_self ..
                         exact List.mem_of_mem_drop this
  obtain ⟨c, t, ec⟩ := addS_ne y.1.toNat y.2.1 y.2.2
  unfold clen
  rw [t1, code_app, code_one, List.length_append, putS_fine y (h y hy), ec, List.length_cons]
  omega
theorem clen_lt (xs : List (Int × Int × Int)) (h : ∀ x ∈ xs, Fine x) (j : Nat) : ∀ k, j < k → k ≤ xs.length → clen xs j < clen xs k
  | 0, hjk, _ => by omega
  | k + 1, hjk, hk => by
    have := clen_succ xs h k (by omega)
    rcases Nat.lt_or_ge j k with h1 | h1
    · have := clen_lt xs h j k h1 (by omega); omega
    · obtain rfl : j = k := by omega
      exact this
def MC (xs : List (Int × Int × Int)) : Nat → DataW Unit
  | 0 => (DataW.map []).put (.int .i64 0) (.lit (.int .i64 0))
  | k + 1 => (MC xs k).put (.int .i64 (clen xs (k + 1) : Nat)) (.lit (.int .i64 ((k : Int) + 1)))
theorem MC_map (xs : List (Int × Int × Int)) : ∀ k, IsMap (MC xs k)
  | 0 => isMap_empty.put _ _
  | k + 1 => (MC_map xs k).put _ _
theorem key_lit (n : Int) : WideAt.IsKeyLit (.int .i64 n) := by first | trivial | exact Or.inr (Or.inl ⟨_, _, rfl⟩) | exact Or.inl ⟨_, _, rfl⟩ | exact ⟨_, _, rfl⟩
theorem MC_hit (xs : List (Int × Int × Int)) (h : ∀ x ∈ xs, Fine x) : ∀ k, k ≤ xs.length → ∀ j, j ≤ k → has (MC xs k) (.int .i64 (clen xs j : Nat)) = true ∧ ∀ z, (MC xs k).atKey (.int .i64 (clen xs j : Nat)) z = .lit (.int .i64 (j : Nat))
  | 0, _, j, hj => by
    obtain rfl : j = 0 := by omega
    exact ⟨has_put_same isMap_empty (key_lit _) _, fun z => atKey_put_same isMap_empty (key_lit _) _ z⟩
  | k + 1, hk, j, hj => by
    by_cases hjk : j = k + 1
    · subst hjk
      refine ⟨has_put_same (MC_map xs k) (key_lit _) _, fun z => ?_⟩
      have := atKey_put_same (MC_map xs k) (key_lit (clen xs (k + 1) : Nat)) (.lit (.int .i64 ((k : Int) + 1))) z
      rw [show (((k + 1 : Nat)) : Int) = (k : Int) + 1 from by omega]
      exact this
    · have hne : (Lit.int .i64 (clen xs j : Nat)) ≠ .int .i64 (clen xs (k + 1) : Nat) := by
        intro e; injection e with _ e
        have := clen_lt xs h j (k + 1) (by omega) hk
        omega
      obtain ⟨h1, h2⟩ := MC_hit xs h k (by omega) j (by omega)
      exact ⟨by show has ((MC xs k).put _ _) _ = true; rw [has_put_other hne]; exact h1, fun z => by show ((MC xs k).put _ _).atKey _ z = _; rw [atKey_put_other hne]; exact h2 z⟩
theorem MC_miss (xs : List (Int × Int × Int)) (cut : Int) : ∀ k, (∀ j, j ≤ k → ((clen xs j : Nat) : Int) ≠ cut) → has (MC xs k) (.int .i64 cut) = false
  | 0, h => by
    show has ((DataW.map []).put _ _) _ = false
    rw [has_put_other (fun e => by injection e with _ e; exact h 0 (Nat.le_refl _) (by rw [e]; rfl))]; rfl
  | k + 1, h => by
    show has ((MC xs k).put _ _) _ = false
    rw [has_put_other (fun e => by injection e with _ e; exact h (k + 1) (Nat.le_refl _) e.symm)]
    exact MC_miss xs cut k (fun j hj => h j (by omega))
end Go.Proofs.Ytgfaadfkeeehgaa
