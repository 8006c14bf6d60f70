import Derived.Test.YtgfaadfkeeehgaaRound
namespace Go.Proofs.Ytgfaadfkeeehgaa
open Go.ChangeShapes Go.WideShapes Go.ChangeAt Go.RowKit
set_option linter.unusedVariables false
theorem opG_put (a : Int) (rest : List Nat) (h1 : -9223372036854775808 ≤ a) (h2 : a < 9223372036854775808) (ha : a ≠ 0) : opG true (putF 9 (foldN a).toNat ++ rest) = (a, (((putF 9 (foldN a).toNat).length : Nat) : Int)) := by
  obtain ⟨u, e1, e2, e3⟩ := fold_nat a h1 h2
  rw [e2]
  have hr := resG_putF u rest e3
  have hu : u ≠ 0 := by
    intro h0
    have := unfold_fold a
    rw [e1, h0] at this
    exact ha (by rw [← this]; decide)
  show operG (putF 9 u ++ rest) = _
  unfold operG
  rw [hr]
  simp only
  rw [if_neg (by omega), ← e1, unfold_fold]
theorem opN_facts (o : Nat) (a b : Int) (ho : o < 64) : opN o a b < 256 ∧ opN o a b % 64 = o ∧ six (opN o a b) = decide (a ≠ 0) ∧ sev (opN o a b) = decide (b ≠ 0) := by
  unfold six sev
  by_cases ha : a = 0
  · by_cases hb : b = 0
    · rw [show opN o a b = o from by unfold opN; rw [if_pos ha, if_pos hb]; rfl]
      exact ⟨by omega, by omega, decide_eq_decide.2 ⟨fun h => by omega, fun h => absurd ha h⟩, decide_eq_decide.2 ⟨fun h => by omega, fun h => absurd hb h⟩⟩
    · rw [show opN o a b = o + 128 from by unfold opN; rw [if_pos ha, if_neg hb]]
      exact ⟨by omega, by omega, decide_eq_decide.2 ⟨fun h => by omega, fun h => absurd ha h⟩, decide_eq_decide.2 ⟨fun _ => hb, fun _ => by omega⟩⟩
  · by_cases hb : b = 0
    · rw [show opN o a b = o + 64 from by unfold opN; rw [if_neg ha, if_pos hb]]
      exact ⟨by omega, by omega, decide_eq_decide.2 ⟨fun _ => ha, fun _ => by omega⟩, decide_eq_decide.2 ⟨fun h => by omega, fun h => absurd hb h⟩⟩
    · rw [show opN o a b = o + 64 + 128 from by unfold opN; rw [if_neg ha, if_neg hb]]
      exact ⟨by omega, by omega, decide_eq_decide.2 ⟨fun _ => ha, fun _ => by omega⟩, decide_eq_decide.2 ⟨fun _ => hb, fun _ => by omega⟩⟩
theorem getS_add (o : Nat) (a b : Int) (rest : List Nat) (ho : o < 64) (ha1 : -9223372036854775808 ≤ a) (ha2 : a < 9223372036854775808) (hb1 : -9223372036854775808 ≤ b) (hb2 : b < 9223372036854775808) :
    getS (addS o a b ++ rest) = (((o : Int), a, b), (((addS o a b).length : Nat) : Int)) := by
  obtain ⟨f1, f2, f3, f4⟩ := opN_facts o a b ho
  unfold addS
  rw [List.append_assoc, List.append_assoc, List.singleton_append, getS_cons, f2, f3, f4]
  by_cases ha : a = 0
  · subst ha
    by_cases hb : b = 0
    · subst hb
      simp [opG]
    · simp only [if_neg hb, if_true, List.nil_append]
      rw [show decide ((0 : Int) ≠ 0) = false from by decide, show decide (b ≠ 0) = true from decide_eq_true hb]
      simp only [opG, Bool.false_eq_true, if_false]
      rw [if_neg (by omega)]
      have := opG_put b rest hb1 hb2 hb
      simp only [opG, if_true] at this
      simp only [Int.toNat_zero, List.drop_zero, if_true, this]
      rw [if_neg (by omega)]
      simp; omega
  · by_cases hb : b = 0
    · subst hb
      simp only [if_neg ha, if_true, List.nil_append]
      rw [show decide ((0 : Int) ≠ 0) = false from by decide, show decide (a ≠ 0) = true from decide_eq_true ha, opG_put a rest ha1 ha2 ha]
      simp only [opG, Bool.false_eq_true, if_false]
      rw [if_neg (by omega), if_neg (by omega)]
      simp; omega
    · simp only [if_neg ha, if_neg hb]
      rw [show decide (b ≠ 0) = true from decide_eq_true hb, show decide (a ≠ 0) = true from decide_eq_true ha, opG_put a _ ha1 ha2 ha]
      simp only
      rw [if_neg (by omega), Int.toNat_natCast, List.drop_left, opG_put b rest hb1 hb2 hb]
      simp only
      rw [if_neg (by omega)]
      simp; omega
theorem addS_ne (o : Nat) (a b : Int) : ∃ c t, addS o a b = c :: t := ⟨_, _, by unfold addS; rw [List.append_assoc, List.singleton_append]⟩
/-- an instruction within its numbers. -/
structure Fine (x : Int × Int × Int) : Prop where
  o1 : 0 ≤ x.1
  o2 : x.1 ≤ 63
  a1 : -9223372036854775808 ≤ x.2.1
  a2 : x.2.1 < 9223372036854775808
  b1 : -9223372036854775808 ≤ x.2.2
  b2 : x.2.2 < 9223372036854775808
def code (l : List (Int × Int × Int)) : List Nat := l.flatMap fun x => putS x.1 x.2.1 x.2.2
theorem code_app (l m : List (Int × Int × Int)) : code (l ++ m) = code l ++ code m := by simp [code]
theorem putS_fine (x : Int × Int × Int) (h : Fine x) : putS x.1 x.2.1 x.2.2 = addS x.1.toNat x.2.1 x.2.2 := by unfold putS; rw [if_pos ⟨h.o1, h.o2⟩]
theorem allS_code (l : List (Int × Int × Int)) (h : ∀ x ∈ l, Fine x) : allS ((code l).length + 1) (code l) = some l := by
  induction l with
  | nil => rfl
  | cons x l ih =>
    have hx := h x (List.mem_cons_self ..)
    have e : code (x :: l) = addS x.1.toNat x.2.1 x.2.2 ++ code l := by show putS x.1 x.2.1 x.2.2 ++ code l = _; rw [putS_fine x hx]
    have hg := getS_add x.1.toNat x.2.1 x.2.2 (code l) (by have := hx.o1; have := hx.o2; omega) hx.a1 hx.a2 hx.b1 hx.b2
    obtain ⟨c, t, hct⟩ := addS_ne x.1.toNat x.2.1 x.2.2
    have e2 : code (x :: l) = c :: (t ++ code l) := by rw [e, hct]; rfl
    rw [e2, allS_step, ← e2, e, hg]
    simp only
    have hpos : 0 < (addS x.1.toNat x.2.1 x.2.2).length := by rw [hct]; simp
    rw [if_neg (by omega), Int.toNat_natCast, List.drop_left, ih (fun y hy => h y (List.mem_cons_of_mem _ hy))]
    simp only [Option.map_some]
    rw [Int.toNat_of_nonneg hx.o1]
theorem addS_byte (o : Nat) (a b : Int) (ho : o < 64) (ha1 : -9223372036854775808 ≤ a) (ha2 : a < 9223372036854775808) (hb1 : -9223372036854775808 ≤ b) (hb2 : b < 9223372036854775808) : ∀ x ∈ addS o a b, x < 256 := by
  intro x hx
  have hf := (opN_facts o a b ho).1
  obtain ⟨ua, _, ea, la⟩ := fold_nat a ha1 ha2
  obtain ⟨ub, _, eb, lb⟩ := fold_nat b hb1 hb2
  unfold addS at hx
  rw [ea, eb] at hx
  simp only [List.mem_append, List.mem_singleton] at hx
  rcases hx with (rfl | hx) | hx
  · exact hf
  · split at hx
    · cases hx
    · exact putF_byte 9 ua (by omega) x hx
  · split at hx
    · cases hx
    · exact putF_byte 9 ub (by omega) x hx
theorem addS_len (o : Nat) (a b : Int) : (addS o a b).length ≤ 21 := by
  unfold addS
  have h1 := (putF_len 9 (foldN a).toNat).2
  have h2 := (putF_len 9 (foldN b).toNat).2
  rw [List.length_append, List.length_append, List.length_singleton]
  split <;> split <;> simp <;> omega
theorem code_byte (l : List (Int × Int × Int)) (h : ∀ x ∈ l, Fine x) : (∀ j, (code l).getD j 0 < 256) ∧ (code l).length ≤ 21 * l.length := by
  have hm : ∀ y ∈ code l, y < 256 := by
    intro y hy
    simp only [code, List.mem_flatMap] at hy
    obtain ⟨x, hx, hy⟩ := hy
    have f := h x hx
    rw [putS_fine x f] at hy
    exact addS_byte _ _ _ (by have := f.o1; have := f.o2; omega) f.a1 f.a2 f.b1 f.b2 y hy
  refine ⟨fun j => ?_, ?_⟩
  · rcases Nat.lt_or_ge j (code l).length with hj | hj
    · rw [List.getD, List.getElem?_eq_getElem hj]; exact hm _ (List.getElem_mem hj)
    · rw [List.getD, List.getElem?_eq_none hj]; simp
  · clear hm
    induction l with
    | nil => simp [code]
    | cons x l ih =>
      have e : code (x :: l) = putS x.1 x.2.1 x.2.2 ++ code l := rfl
      have := ih (fun y hy => h y (List.mem_cons_of_mem _ hy))
      rw [e, List.length_append, putS_fine x (h x (List.mem_cons_self ..)), List.length_cons]
      have := addS_len x.1.toNat x.2.1 x.2.2
      omega
end Go.Proofs.Ytgfaadfkeeehgaa
