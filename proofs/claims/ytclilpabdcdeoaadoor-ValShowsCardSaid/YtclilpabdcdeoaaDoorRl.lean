import Derived.Test.YtclilpabdcdeoaaDoorBg
namespace Go.Proofs.YtclilpabdcdeoaaDoor
open Go.ChangeShapes Go.WideShapes Go.ChangeAt Go.RowKit
set_option linter.unusedVariables false
def capB : Nat → Nat
  | 0 => 6
  | d + 1 => 70 + 4 * (capB d + 2)
theorem capB_ge (d : Nat) : 6 ≤ capB d := by cases d <;> simp [capB]; omega
theorem named_not6 (s : ByteArray) : (namedT s).k ≠ 6 := by
  unfold namedT
  repeat' split
  all_goals simp [TT.k]
theorem piecesT_cap {g : VT → TT → ByteArray} {ts : List ByteArray} {c : Nat} (hc : 1 ≤ c) : ∀ (l : List VT) (i : Nat), (∀ a ∈ l, ∀ T, T.k ≠ 6 → (g a T).size ≤ c) → (piecesT g ts i l).size ≤ l.length * (c + 2)
  | [], i, _ => by simp [piecesT]
  | a :: l, i, h => by
    show (headT i ++ pieceT g ts i a ++ piecesT g ts (i + 1) l).size ≤ (l.length + 1) * (c + 2)
    have h1 := piecesT_cap (g := g) (ts := ts) hc l (i + 1) (fun b hb => h b (List.mem_cons_of_mem _ hb))
    have h2 : (headT i).size = 2 := by unfold headT; split <;> rfl
    have h3 : (pieceT g ts i a).size ≤ c := by
      unfold pieceT; split
      · exact h a List.mem_cons_self _ (named_not6 _)
      · exact hc
    simp only [ByteArray.size_append]
    rw [Nat.add_mul]; omega
theorem numT_size {z : Int} (h0 : -9223372036854775808 ≤ z) (h1 : z ≤ 9223372036854775807) : (numT z).size ≤ 21 := by
  have := Lib.itoa_length_le z (by omega) (by omega)
  show (Lib.itoa z).toArray.size ≤ 21
  simpa using this
theorem big_parts {d : Nat} {V : VT} (h : bigD (d + 1) V = false) : V.args.length ≤ 4 ∧ V.nm.size ≤ 60 ∧ ∀ a ∈ V.args, bigD d a = false := by
  unfold bigD at h
  simp only [Bool.or_eq_false_iff, decide_eq_false_iff_not] at h
  obtain ⟨⟨h1, h2⟩, h3⟩ := h
  exact ⟨by omega, by omega, fun a ha => by
    cases hx : bigD d a
    · rfl
    · rw [List.any_eq_true.2 ⟨a, ha, hx⟩] at h3; cases h3⟩
/-- numbers within int64, throughout. -/
def okN : Nat → VT → Prop
  | 0, _ => True
  | d + 1, V => (-9223372036854775808 ≤ V.n ∧ V.n ≤ 9223372036854775807) ∧ ∀ a ∈ V.args, okN d a
theorem rtext_cap1 (cells : List VT) (cons : List CN) : ∀ (d f : Nat) (V : VT) (T : TT), T.k ≠ 6 → bigD d V = false → okN d V → (rtext cells cons f V T).size ≤ capB d := by
  intro d
  induction d with
  | zero => intro f V T _ h; cases h
  | succ d ih =>
    intro f V T hT h hn
    obtain ⟨b1, b2, b3⟩ := big_parts h
    have hcd := capB_ge d
    have hcs : capB (d + 1) = 70 + 4 * (capB d + 2) := rfl
    cases f with
    | zero => show (2 : Nat) ≤ _; omega
    | succ f =>
      unfold rtext
      cases hlf : leafV T.k V.k with
      | some x => have := leaf_small hlf; show x.size ≤ _; omega
      | none =>
        obtain ⟨hk, hks⟩ := leaf_none hlf
        dsimp only
        rcases hks with hk1 | hk1 | hk1 | hk1
        · rw [if_pos hk1]; have := numT_size hn.1.1 hn.1.2; omega
        · rw [if_neg (by omega), if_pos hk1]
          have : (boolT (V.n == 1)).size ≤ 5 := by unfold boolT; split <;> decide
          omega
        · rw [if_neg (by omega), if_neg (by omega), if_pos hk1]
          unfold constrT
          split
          · omega
          · have h1 := piecesT_cap (g := rtext cells cons f) (ts := typesOf cons V.nm) (c := capB d) (by omega) V.args 0 (fun a ha T hT => ih f a T hT (b3 a ha) (hn.2 a ha))
            have h2 : V.args.length * (capB d + 2) ≤ 4 * (capB d + 2) := Nat.mul_le_mul_right _ b1
            have h3 : closeT.size = 1 := rfl
            simp only [ByteArray.size_append]; omega
        · omega
theorem rtext_cap (cells : List VT) (cons : List CN) (hc : ∀ c ∈ cells, bigD 7 c = false ∧ okN 7 c) : ∀ (f : Nat) (V : VT) (T : TT), bigD 7 V = false → okN 7 V → (rtext cells cons f V T).size ≤ 5 * f + capB 7 := by
  intro f
  induction f with
  | zero => intro V T h _; show (2 : Nat) ≤ _; have := capB_ge 7; omega
  | succ f ih =>
    intro V T h hn
    by_cases hT : T.k = 6
    · unfold rtext
      have hcg := capB_ge 7
      cases hlf : leafV T.k V.k with
      | some x => have := leaf_small hlf; show x.size ≤ _; omega
      | none =>
        obtain ⟨hk, hks⟩ := leaf_none hlf
        dsimp only
        rw [if_neg (by omega), if_neg (by omega), if_neg (by omega)]
        unfold refdT
        have h4 : refT.size = 4 := rfl
        have h5 : markT.size = 1 := rfl
        split
        · rename_i hg
          have := ih cells[V.at_.toNat] (T.args[0]'(by omega)) (hc _ (List.getElem_mem _)).1 (hc _ (List.getElem_mem _)).2
          rw [ByteArray.size_append]; omega
        · rw [ByteArray.size_append]; omega
    · have := rtext_cap1 cells cons 7 (f + 1) V T hT h hn; omega
theorem okV_n {w : World} : ∀ (d : Nat) (V : VT) (b o : Nat), okV w V b o → okN d V
  | 0, _, _, _, _ => trivial
  | d + 1, V, b, o, h => by
    rw [okV_eq] at h
    obtain ⟨hb', hn, c0, c1, c2, ⟨A', c', c3, hA'⟩, _⟩ := h
    refine ⟨hn, fun a ha => ?_⟩
    rcases hA' with h1 | ⟨b2, o2, _, _, h2⟩
    · rw [List.eq_nil_of_length_eq_zero h1] at ha; cases ha
    · obtain ⟨i, hi, rfl⟩ := List.getElem_of_mem ha
      exact okV_n d _ _ _ (okL_at h2 i hi)
theorem VIn_n {w : World} {V : VT} {v : Value} (d : Nat) (h : VIn w V v) : okN (d + 1) V := by
  obtain ⟨A, c, e, _, hn, hA⟩ := h
  refine ⟨hn, fun a ha => ?_⟩
  rcases hA with h1 | ⟨b2, o2, _, _, h2⟩
  · rw [List.eq_nil_of_length_eq_zero h1] at ha; cases ha
  · obtain ⟨i, hi, rfl⟩ := List.getElem_of_mem ha
    exact okV_n d _ _ _ (okL_at h2 i hi)
end Go.Proofs.YtclilpabdcdeoaaDoor
