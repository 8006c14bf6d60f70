import Derived.Lib.Hide
import Derived.WalkKit
namespace Go.Proofs.YtclilpabdcdeoaaDoor
open Go
set_option linter.unusedVariables false
/-- are two texts alike, as the walk asks it? -/
def eqB (a b : ByteArray) : Bool := a.toList == b.toList
theorem eqB_refl (a : ByteArray) : eqB a a = true := beq_self_eq_true _
theorem eqB_symm (a b : ByteArray) : eqB a b = eqB b a := by unfold eqB; exact Bool.beq_comm
theorem eqB_trans {a b c : ByteArray} (h : eqB a b = true) (k : eqB b c = true) : eqB a c = true := by
  unfold eqB at *; rw [beq_iff_eq] at *; rw [h]; exact k
/-- the bindings, the innermost first: each with its number. -/
abbrev Bd := ByteArray × Int
def findC : List Bd → ByteArray → Option Int
  | [], _ => none
  | (x, k) :: r, a => if eqB x a = true then some k else findC r a
/-- the bindings of the first i names. -/
def chn (l : List ByteArray) : Nat → List Bd
  | 0 => []
  | i + 1 => (l.getD i ⟨#[]⟩, (i : Int)) :: chn l i
theorem chn_len (l : List ByteArray) (i : Nat) : (chn l i).length = i := by
  induction i with
  | zero => rfl
  | succ i ih => simp [chn, ih]
def atN (l : List ByteArray) (a : ByteArray) : Nat → Int
  | 0 => -1
  | i + 1 => if eqB (l.getD i ⟨#[]⟩) a = true then (i : Int) else atN l a i
theorem atN_range (l : List ByteArray) (a : ByteArray) : ∀ i, -1 ≤ atN l a i ∧ atN l a i < i := by
  intro i
  induction i with
  | zero => exact ⟨Int.le_refl _, by show (-1 : Int) < 0; omega⟩
  | succ i ih => unfold atN; split <;> omega
theorem find_at (l : List ByteArray) (a : ByteArray) : ∀ i, findC (chn l i) a = if atN l a i < 0 then none else some (atN l a i) := by
  intro i
  induction i with
  | zero => rfl
  | succ i ih =>
    unfold chn atN findC
    by_cases h : eqB (l.getD i ⟨#[]⟩) a = true
    · rw [if_pos h, if_pos h, if_neg (by omega)]
    · rw [if_neg h, if_neg h]; exact ih
/-- each name once, in the order of the bindings. -/
def hasB (acc : List ByteArray) (x : ByteArray) : Bool := acc.any fun y => eqB y x
def addB (acc : List ByteArray) (x : ByteArray) : List ByteArray := if hasB acc x = true then acc else acc ++ [x]
def namesF : List Bd → List ByteArray → List ByteArray
  | [], acc => acc
  | (x, _) :: r, acc => namesF r (addB acc x)
def namesC (c : List Bd) : List ByteArray := namesF c []
/-- no two alike. -/
def Apart : List ByteArray → Prop
  | [] => True
  | x :: l => hasB l x = false ∧ Apart l
theorem hasB_app (a b : List ByteArray) (x : ByteArray) : hasB (a ++ b) x = (hasB a x || hasB b x) := by simp [hasB]
theorem Apart.app {acc : List ByteArray} {x : ByteArray} (h : Apart acc) (hx : hasB acc x = false) : Apart (acc ++ [x]) := by
  induction acc with
  | nil => exact ⟨rfl, trivial⟩
  | cons y l ih =>
    have e : hasB (y :: l) x = (eqB y x || hasB l x) := by simp [hasB]
    rw [e, Bool.or_eq_false_iff] at hx
    refine ⟨?_, ih h.2 hx.2⟩
    show hasB (l ++ [x]) y = false
    rw [hasB_app, h.1]
    simp [hasB, eqB_symm x y, hx.1]
theorem namesF_apart : ∀ (c : List Bd) (acc : List ByteArray), Apart acc → Apart (namesF c acc) := by
  intro c
  induction c with
  | nil => intro acc h; exact h
  | cons b r ih =>
    obtain ⟨x, k⟩ := b
    intro acc h
    show Apart (namesF r (addB acc x))
    refine ih _ ?_
    unfold addB
    by_cases hx : hasB acc x = true
    · rw [if_pos hx]; exact h
    · rw [if_neg hx]; exact h.app (by simpa using hx)
theorem namesF_keep : ∀ (c : List Bd) (acc : List ByteArray), ∃ t, namesF c acc = acc ++ t := by
  intro c
  induction c with
  | nil => intro acc; exact ⟨[], by simp [namesF]⟩
  | cons b r ih =>
    obtain ⟨x, k⟩ := b
    intro acc
    obtain ⟨t, ht⟩ := ih (addB acc x)
    show ∃ t, namesF r (addB acc x) = acc ++ t
    rw [ht]
    unfold addB
    by_cases hx : hasB acc x = true
    · rw [if_pos hx]; exact ⟨t, rfl⟩
    · rw [if_neg hx]; exact ⟨x :: t, by simp⟩
theorem names_head (x : ByteArray) (k : Int) (r : List Bd) : ∃ t, namesC ((x, k) :: r) = x :: t := by
  unfold namesC
  obtain ⟨t, ht⟩ := namesF_keep r (addB [] x)
  refine ⟨t, ?_⟩
  show namesF r (addB [] x) = _
  rw [ht]; rfl
theorem namesF_in : ∀ (c : List Bd) (acc : List ByteArray) (y : ByteArray), y ∈ namesF c acc → y ∈ acc ∨ ∃ k, (y, k) ∈ c := by
  intro c
  induction c with
  | nil => intro acc y h; exact .inl h
  | cons b r ih =>
    obtain ⟨x, k⟩ := b
    intro acc y h
    rcases ih _ y h with h | ⟨k2, h⟩
    · unfold addB at h
      split at h
      · exact .inl h
      · rcases List.mem_append.1 h with h | h
        · exact .inl h
        · rw [List.mem_singleton] at h; subst h; exact .inr ⟨k, List.mem_cons_self ..⟩
    · exact .inr ⟨k2, List.mem_cons_of_mem _ h⟩
theorem find_some : ∀ (c : List Bd) (y : ByteArray) (k : Int), (y, k) ∈ c → ∃ j, findC c y = some j := by
  intro c
  induction c with
  | nil => intro y k h; cases h
  | cons b r ih =>
    obtain ⟨x, j⟩ := b
    intro y k h
    unfold findC
    by_cases hx : eqB x y = true
    · rw [if_pos hx]; exact ⟨j, rfl⟩
    · rw [if_neg hx]
      rcases List.mem_cons.1 h with h | h
      · injection h with h1 h2
        exact absurd (h1 ▸ eqB_refl x) hx
      · exact ih y k h
theorem names_found {c : List Bd} {y : ByteArray} (h : y ∈ namesC c) : ∃ j, findC c y = some j := by
  rcases namesF_in c [] y h with h | ⟨k, h⟩
  · cases h
  · exact find_some c y k h
theorem apart_get : ∀ (l : List ByteArray) (i k : Nat), Apart l → k < i → i < l.length → eqB (l.getD k ⟨#[]⟩) (l.getD i ⟨#[]⟩) = false := by
  intro l
  induction l with
  | nil => intro i k _ _ h; simp at h
  | cons x l ih =>
    intro i k h hk hi
    cases i with
    | zero => omega
    | succ i =>
      simp only [List.length_cons] at hi
      cases k with
      | zero =>
        have h1 := h.1
        unfold hasB at h1
        rw [List.any_eq_false] at h1
        have hm : l.getD i ⟨#[]⟩ ∈ l := by
          rw [List.getD_eq_getElem?_getD, List.getElem?_eq_getElem (by omega)]
          exact List.getElem_mem _
        have := h1 _ hm
        simp only [List.getD_cons_zero, List.getD_cons_succ]
        rw [eqB_symm]; simpa using this
      | succ k =>
        simp only [List.getD_cons_succ]
        exact ih i k h.2 (by omega) (by omega)
theorem names_len : ∀ (c : List Bd) (acc : List ByteArray), (namesF c acc).length ≤ acc.length + c.length := by
  intro c
  induction c with
  | nil => intro acc; exact Nat.le_refl _
  | cons b r ih =>
    obtain ⟨x, k⟩ := b
    intro acc
    have := ih (addB acc x)
    have h2 : (addB acc x).length ≤ acc.length + 1 := by unfold addB; split <;> simp
    show (namesF r (addB acc x)).length ≤ _
    simp only [List.length_cons]; omega
end Go.Proofs.YtclilpabdcdeoaaDoor
