import Derived.Test.YtaidlcnfkdaijaaWr
namespace Go.Proofs.Ytaidlcnfkdaijaa
open Go.ChangeShapes Go.WideShapes Go.ChangeAt Go.RowKit
set_option linter.unusedVariables false
/-- y is one whole piece, and p what it stands for, whatever follows. -/
def Full (old y p : List Nat) : Prop := 0 < y.length ∧ ∀ rest, nextS old (y ++ rest) = some (p, rest)
inductive Codes (old : List Nat) : List Nat → List (List Nat) → Prop
  | nil : Codes old [] []
  | snoc {xs l y p} : Codes old xs l → Full old y p → Codes old (xs ++ y) (l ++ [p])
theorem PS_nil (old : List Nat) : PS old [] = some [] := rfl
theorem Codes.ps {old xs : List Nat} {l : List (List Nat)} (h : Codes old xs l) : ∀ rest, PS old (xs ++ rest) = (PS old rest).map (l ++ ·) := by
  induction h with
  | nil => intro rest; simp
  | snoc h f ih =>
    intro rest
    rw [List.append_assoc, ih, PS_step old _ (by rw [List.length_append]; have := f.1; omega), f.2]
    simp only [Option.map_map]
    congr 1
    funext x
    simp
theorem Codes.all {old xs : List Nat} {l : List (List Nat)} (h : Codes old xs l) : PS old xs = some l := by
  have := h.ps []
  rw [List.append_nil, PS_nil] at this
  rw [this]; simp
theorem numS_put (u : Nat) (rest : List Nat) (hu : u ≤ 1000000) : numS (putF 9 u ++ rest) = ((u : Int), (putF 9 u).length) := by
  unfold numS
  rw [resG_putF u rest (by omega)]
  have := (putF_len 9 u).1
  rw [if_neg (by simp only; omega)]
  simp
theorem full_written (old q : List Nat) (D : Nat) (hq : q.length = D) (h0 : 0 < D) (h1 : D ≤ 1000000) : Full old ((2 :: putF 9 D) ++ q) q := by
  refine ⟨by simp, fun rest => ?_⟩
  have e : (2 :: putF 9 D) ++ q ++ rest = 2 :: (putF 9 D ++ (q ++ rest)) := by simp
  rw [e]
  simp only [nextS]
  rw [numS_put D _ h1, if_neg (by decide), if_pos trivial, if_neg (by simp only; omega)]
  simp only [List.drop_left, Int.toNat_natCast]
  rw [if_neg (by rw [List.length_append]; omega), ← hq, List.take_left, List.drop_left]
theorem full_copied (old : List Nat) (F M : Nat) (h0 : 0 < M) (hF : F ≤ 1000000) (hM : M ≤ 1000000) (hl : F + M ≤ old.length) : Full old (1 :: (putF 9 F ++ putF 9 M)) ((old.drop F).take M) := by
  refine ⟨by simp, fun rest => ?_⟩
  have e : 1 :: (putF 9 F ++ putF 9 M) ++ rest = 1 :: (putF 9 F ++ (putF 9 M ++ rest)) := by simp
  rw [e]
  simp only [nextS]
  rw [numS_put F _ hF, if_pos trivial, if_neg (show ¬ (F : Int) < 0 by omega)]
  simp only [List.drop_left]
  rw [numS_put M _ hM, if_neg (show ¬ (M : Int) < 1 by omega), if_neg (show ¬ (old.length : Int) < F by omega), if_neg (show ¬ (old.length : Int) - F < M by omega)]
  simp
theorem putF_two (u : Nat) (hu : u < 16384) : (putF 9 u).length ≤ 2 := by
  unfold putF
  split
  · simp
  · rw [putF_small _ _ (by omega)]; simp
theorem putF_one (u : Nat) (hu : u < 128) : (putF 9 u).length = 1 := by rw [putF_small _ _ hu]; rfl
theorem EqTo.list {old new : List Nat} {F a k : Nat} (h : EqTo old new F a k) : (old.drop F).take k = (new.drop a).take k := by
  apply List.ext_getElem
  · rw [List.length_take, List.length_take, List.length_drop, List.length_drop]; have := h.1; have := h.2.1; omega
  · intro j h1 h2
    rw [List.length_take] at h1 h2
    have := h.2.2 j (by omega)
    have a1 := h.1; have a2 := h.2.1
    simp only [List.getElem_take, List.getElem_drop]
    rw [List.getD, List.getD, List.getElem?_eq_getElem (by omega), List.getElem?_eq_getElem (by omega)] at this
    simpa using this
/-- what a state of the writer means. -/
structure Inv (old new : List Nat) (at_ done : Nat) (xs : List Nat) : Prop where
  le : done ≤ at_
  le2 : at_ ≤ new.length
  codes : ∃ l, Codes old xs l ∧ l.flatten = new.take done
  len : xs.length ≤ done
theorem Inv.wr {old new : List Nat} {at_ done : Nat} {xs : List Nat} (h : Inv old new at_ done xs) (hl : new.length ≤ 420) :
    (∃ l, Codes old (xs ++ wrote new done at_) l ∧ l.flatten = new.take at_) ∧ (xs ++ wrote new done at_).length ≤ at_ + 3 := by
  obtain ⟨l, hc, hf⟩ := h.codes
  have h1 := h.le; have h2 := h.le2; have h3 := h.len
  unfold wrote
  by_cases hd : done < at_
  · rw [if_pos hd]
    have hq : ((new.drop done).take (at_ - done)).length = at_ - done := by rw [List.length_take, List.length_drop]; omega
    refine ⟨⟨_, .snoc hc (full_written old _ (at_ - done) hq (by omega) (by omega)), ?_⟩, ?_⟩
    · rw [List.flatten_append, hf]
      simp only [List.flatten_cons, List.flatten_nil, List.append_nil]
      rw [← List.take_add, show done + (at_ - done) = at_ by omega]
    · have := putF_two (at_ - done) (by omega)
      rw [List.length_append, List.length_append, hq, List.length_cons]
      omega
  · rw [if_neg hd, List.append_nil]
    exact ⟨⟨l, hc, by rw [hf, show done = at_ by omega]⟩, by omega⟩
theorem Inv.copied {old new : List Nat} {at_ done F k : Nat} {xs : List Nat} (h : Inv old new at_ done xs) (hl : new.length ≤ 420) (ho : old.length ≤ 420) (hk : 16 ≤ k) (he : EqTo old new F at_ k) :
    Inv old new (at_ + k) (at_ + k) (xs ++ wrote new done at_ ++ 1 :: (putF 9 F ++ putF 9 k)) := by
  obtain ⟨⟨l, hc, hf⟩, hlen⟩ := h.wr hl
  have e1 := he.1; have e2 := he.2.1
  refine ⟨Nat.le_refl _, e2, ⟨_, .snoc hc (full_copied old F k (by omega) (by omega) (by omega) e1), ?_⟩, ?_⟩
  · rw [List.flatten_append, hf]
    simp only [List.flatten_cons, List.flatten_nil, List.append_nil]
    rw [he.list, ← List.take_add]
  · have p1 := putF_two F (by omega); have p2 := putF_two k (by omega)
    have e : (xs ++ wrote new done at_ ++ 1 :: (putF 9 F ++ putF 9 k)).length = (xs ++ wrote new done at_).length + ((putF 9 F).length + (putF 9 k).length + 1) := by
      simp only [List.length_append, List.length_cons]
    omega
theorem Inv.start (old new : List Nat) : Inv old new 0 0 [] := ⟨Nat.le_refl _, Nat.zero_le _, ⟨[], .nil, by simp⟩, Nat.le_refl _⟩
theorem Inv.next {old new : List Nat} {at_ done : Nat} {xs : List Nat} (h : Inv old new at_ done xs) (hl : at_ < new.length) : Inv old new (at_ + 1) done xs := ⟨by have := h.le; omega, by omega, h.codes, h.len⟩
theorem Inv.fin {old new : List Nat} {at_ done : Nat} {xs : List Nat} (h : Inv old new at_ done xs) (hl : new.length ≤ 420) (he : new.length ≤ at_) :
    ∃ l, PS old (xs ++ wrote new done at_) = some l ∧ l.flatten = new ∧ (xs ++ wrote new done at_).length ≤ new.length + 8 := by
  obtain ⟨⟨l, hc, hf⟩, hlen⟩ := h.wr hl
  have := h.le2
  exact ⟨l, hc.all, by rw [hf, List.take_of_length_le he], by omega⟩
theorem strB_inj (xs ys : List Nat) (hx : ∀ j, xs.getD j 0 < 256) (hy : ∀ j, ys.getD j 0 < 256) (h : strB xs = strB ys) : xs = ys := by
  unfold strB strOfNums at h
  simp only [ByteArray.mk.injEq] at h
  have h2 := congrArg Array.toList h
  simp only [List.map_map] at h2
  have hl : xs.length = ys.length := by have := congrArg List.length h2; simpa using this
  apply List.ext_getElem hl
  intro j j1 j2
  have h3 := congrArg (fun l => (l[j]?).map UInt8.toNat) h2
  have q1 := hx j; have q2 := hy j
  simp [List.getD, j1, j2] at h3 q1 q2
  omega
end Go.Proofs.Ytaidlcnfkdaijaa
