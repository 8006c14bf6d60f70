import Derived.Test.YtkecnhogooaccaaCut
namespace Go.Proofs.Ytkecnhogooaccaa
open Go.ChangeShapes Go.WideShapes Go.ChangeAt Go.RowKit
set_option linter.unusedVariables false
/-- Cut. -/
def cutS (l : List RF) (d a : Int) : Int × List RF :=
  if d < 0 ∨ (l.length : Int) < d ∨ a < 0 then (1, l)
  else if d = 0 then (if 0 < a then (1, l) else (0, []))
  else match l.drop (d.toNat - 1) with
    | [] => (1, l)
    | f :: _ => if (f.added.length : Int) < a then (1, l) else (0, l.take (d.toNat - 1) ++ [{ f with added := f.added.take a.toNat }])
theorem cut_st {w0 wr : World} {g room : Nat} {l : List RF} (d a : Int) (s : StN w0 wr g room l) :
    Calls Try.prog 15 #[.pointer (some ⟨g, 0, none⟩), .int .i64 d, .int .i64 a] wr fun e w' => e = .returned (.int .i64 (cutS l d a).1) ∧ Hid (StN w0 w' g room (cutS l d a).2) := by
  have s' := s
  obtain ⟨fv, wv, t, b⟩ := s
  have hl : (frOf l).length = l.length := frOf_len l
  by_cases h1 : d < 0 ∨ (l.length : Int) < d ∨ a < 0
  · have e : cutS l d a = (1, l) := if_pos h1
    rw [e]
    refine (cut_bad d a t ?_).mono fun e w' ⟨he, hb⟩ => ⟨he, Lib.hid (s'.below hb)⟩
    rw [hl]; omega
  by_cases h2 : d = 0
  · subst h2
    by_cases h3 : 0 < a
    · have e : cutS l 0 a = (1, l) := by unfold cutS; rw [if_neg h1, if_pos rfl, if_pos h3]
      rw [e]
      refine (cut_bad 0 a t (by omega)).mono fun e w' ⟨he, hb⟩ => ⟨he, Lib.hid (s'.below hb)⟩
    · have e : cutS l 0 a = (0, []) := by unfold cutS; rw [if_neg h1, if_pos rfl, if_neg h3]
      obtain rfl : a = 0 := by omega
      rw [e]
      refine (cut_zero t).mono ?_
      rintro e w' ⟨he, t', f⟩
      exact ⟨he, Lib.hid (StN.step t b f.out (fun k h => .inl h) t'.out rfl rfl)⟩
  obtain ⟨n, rfl⟩ : ∃ n : Nat, d = ((n + 1 : Nat) : Int) := ⟨d.toNat - 1, by omega⟩
  obtain ⟨k, rfl⟩ : ∃ k : Nat, a = k := ⟨a.toNat, by omega⟩
  have hn : n < l.length := by omega
  obtain ⟨l1, f, l2, rfl, hl1⟩ : ∃ l1 f l2, l = l1 ++ f :: l2 ∧ l1.length = n := by
    refine ⟨l.take n, l[n], l.drop (n + 1), ?_, by rw [List.length_take]; omega⟩
    rw [← List.drop_eq_getElem_cons hn, List.take_append_drop]
  have ecut : cutS (l1 ++ f :: l2) ((n + 1 : Nat) : Int) (k : Int) = if (f.added.length : Int) < (k : Int) then (1, l1 ++ f :: l2) else (0, l1 ++ [{ f with added := f.added.take k }]) := by
    unfold cutS
    rw [if_neg h1, if_neg h2]
    have e1 : (((n + 1 : Nat) : Int)).toNat - 1 = n := by omega
    rw [e1, List.drop_append_of_le_length (by omega), List.drop_eq_nil_of_le (by omega), List.nil_append, List.take_append_of_le_length (by omega), List.take_of_length_le (by omega), Int.toNat_natCast]
  have efr : frOf (l1 ++ f :: l2) = frOf l1 ++ ⟨f.back, f.call, (wdOf l1).length, f.slots.length⟩ :: frAt l2 ((wdOf l1).length + f.ws.length) := by
    unfold frOf; rw [frAt_app]; simp [frAt]
  have ewd : wdOf (l1 ++ f :: l2) = wdOf l1 ++ (f.ws ++ wdOf l2) := by
    rw [wdOf_app]; simp [wdOf]
  have efw : f.ws.length = f.slots.length + f.added.length := by simp [RF.ws]
  rw [efr] at t
  have hE : (frAt l2 ((wdOf l1).length + f.ws.length) = [] ∧ (wdOf l1).length + f.ws.length = (wdOf (l1 ++ f :: l2)).length) ∨ (∃ f2 r, frAt l2 ((wdOf l1).length + f.ws.length) = f2 :: r ∧ (wdOf l1).length + f.ws.length = f2.base) := by
    cases l2 with
    | nil => left; refine ⟨rfl, ?_⟩; rw [ewd]; simp [wdOf]
    | cons f2 r => right; exact ⟨_, _, rfl, rfl⟩
  have hE2 : (wdOf l1).length + f.ws.length ≤ (wdOf (l1 ++ f :: l2)).length := by rw [ewd]; simp
  have hfl : (frOf l1).length = n := by rw [frOf_len, hl1]
  rw [ecut]
  by_cases h4 : (f.added.length : Int) < (k : Int)
  · rw [if_pos h4]
    have := cut_many ((wdOf l1).length + f.ws.length) k t hE (by show (wdOf l1).length + f.slots.length ≤ _; omega) hE2 (by show _ < (wdOf l1).length + f.slots.length + k; omega)
    rw [hfl] at this
    exact this.mono fun e w' ⟨he, hb⟩ => ⟨he, Lib.hid (s'.below hb)⟩
  · rw [if_neg h4]
    have := cut_ok ((wdOf l1).length + f.ws.length) k t hE (by show (wdOf l1).length + f.slots.length ≤ _; omega) hE2 (by show (wdOf l1).length + f.slots.length + k ≤ _; omega)
    rw [hfl] at this
    refine this.mono ?_
    rintro e w' ⟨fv', wv', he, t', fm⟩
    refine ⟨he, Lib.hid (StN.step t b fm.out (fun k h => .inl h) t'.out ?_ ?_)⟩
    · rw [frOf_app]
    · rw [ewd]
      show (wdOf l1 ++ (f.ws ++ wdOf l2)).take ((wdOf l1).length + f.slots.length + k) = wdOf (l1 ++ [{ f with added := f.added.take k }])
      rw [wdOf_app, wdOf_one]
      rw [show (wdOf l1).length + f.slots.length + k = (wdOf l1).length + (f.slots.length + k) by omega, List.take_length_add_append]
      congr 1
      rw [List.take_append_of_le_length (by omega)]
      show (f.slots ++ f.added).take _ = f.slots ++ f.added.take k
      rw [List.take_length_add_append]
end Go.Proofs.Ytkecnhogooaccaa
