import Derived.Test.YtdnakmbfkpjaeaaDoorBase
namespace Go.Proofs.YtdnakmbfkpjaeaaDoor
open Go.ChangeShapes Go.WideShapes Go.ChangeAt Go.RowKit
set_option linter.unusedVariables false
theorem clone_some {w : World} {a : Addr} {c : Nat} {xs : List Int} (h : ∀ j u, (its xs)[j]? = some u → w.cell? (a.add j) = some u) (hl : xs.length ≤ 1000000) :
    Calls Tryd.prog 14 #[.slice (some a) xs.length c] w fun e w' => ∃ v, e = .returned v ∧ w'.ownsRow w.heap.size 2 1 v xs.length (its xs) ∧ Below w.heap.size w w' := by
  obtain ⟨i0, hi0, hz0, hz1, hz2⟩ := info_parts info2
  have hh : ∀ j u, (its xs)[j]? = some u → (w.alloc (.cells #[] 2)).cell? (a.add j) = some u := fun j u hu => by
    have := h j u hu
    rw [(below_alloc w (.cells #[] 2)).cell (World.block_lt_of_cell? w _ this)]; exact this
  have H := Lib.hid hh
  have en : ∀ W, (binOp .eql 22 (.slice (some a) xs.length c) (.slice none 0 0)).run Tryd.prog W = .ok (.bool false) W := fun W => Lib.run_eql_slice_nil W 22 2 (some a) xs.length c 0 0 Tryd.underlying22
  clear h hh
  go_enter Tryd.func14, Tryd.ntmps14
  go_wp2_with (at_builtin; refine wpList_append_own _ rfl (.tmp 5) (.tmp 6) 22 rfl w.heap.size 2 i0 (.int .i64 0) 1 8 Tryd.underlying22 hi0 hz0 hz1 hz2 rfl (by decide) _ 0 [] rfl (World.ownsRow_lit w #[] 0 (Nat.le_refl _) (by unfold maxLen; omega) rfl) a _ _ (its xs) rfl (by simp [its]) H.out (its_one xs) (by unfold maxLen; omega) (by omega) (by simp) ?_)
  intro v2 w2 own2 gr2 _
  have hb2 : Below w.heap.size w w2 := (below_alloc w (.cells #[] 2)).grown gr2 (by simp) (fun q hq => by simp [Value.ownBlock] at hq; omega)
  have OWN2 := Lib.hid own2; have HB2 := Lib.hid hb2
  clear own2 gr2 hb2
  go_wp2
  go_ret
  exact ⟨_, rfl, by have := OWN2.out; simpa using this, HB2.out⟩
theorem clone_any {w : World} {A : Option Addr} {n c : Nat} {xs : List Int} (s : SlI w A n c xs) (hl : n ≤ 1000000) :
    Calls Tryd.prog 14 #[.slice A n c] w fun e w' => ∃ v, e = .returned v ∧ w'.ownsRow w.heap.size 2 1 v xs.length (its xs) ∧ Below w.heap.size w w' := by
  obtain ⟨rfl, h1, h2, h3⟩ := s
  cases A with
  | none =>
    have hx : xs = [] := List.eq_nil_of_length_eq_zero (by
      rcases Nat.eq_zero_or_pos xs.length with h | h
      · exact h
      · obtain ⟨_, _, e, _⟩ := h3 h; cases e)
    subst hx
    exact (Tryd.slices_Clone_nil 0 c w).mono fun e w' ⟨he, hw⟩ => ⟨_, he, by subst hw; exact World.ownsRow_nil _ _ _ _, by subst hw; exact Below.refl _ _⟩
  | some a =>
    refine clone_some (fun j u hu => ?_) hl
    have hj : j < xs.length := by have := (List.getElem?_eq_some_iff.1 hu).1; rwa [its_len] at this
    obtain ⟨b, o, e, _, hc⟩ := h3 (by omega)
    injection e with e
    subst e
    rw [Go.WideShapes.add_plain, hc j hj, ← its_at xs j hj, hu]
set_option maxRecDepth 100000 in
set_option maxHeartbeats 2000000 in
theorem new_any {w : World} {A : Option Addr} {n c : Nat} {xs : List Int} (s : SlI w A n c xs) (hl : n ≤ 200) :
    Calls Tryd.prog 6 #[.slice A n c] w fun e w' => ∃ g iv ov, e = .returned (.tuple #[.pointer (some ⟨g, 0, none⟩), .int .i64 0]) ∧ Hid (Tp w' w.heap.size g iv ov xs [] 0) ∧ Hid (Below w.heap.size w w') := by
  have hn' : ¬ (200 : Int) < (n : Int) := by omega
  have S := Lib.hid s
  have hl1 : n ≤ 1000000 := by omega
  clear s
  go_enter Tryd.func6, Tryd.ntmps6
  go_wp2_with fail
  refine (clone_any S.out hl1).mono ?_
  rintro e w2 ⟨v, rfl, own, hb⟩
  obtain ⟨A2, c2, rfl⟩ := iform own
  have TP : Hid (Tp (w2.alloc (.cells #[.slice A2 xs.length c2, .slice none 0 0, .int .i64 0] 44)) w.heap.size w2.heap.size (.slice A2 xs.length c2) (.slice none 0 0) xs [] 0) := Lib.hid (by
    refine ⟨?_, own.alloc _, World.ownsRow_nil _ _ _ _, ?_, by simp [Value.ownBlock], fun k h => by simp [Value.ownBlock] at h, hb.size, Nat.zero_le _⟩
    · unfold TObj
      show (w2.heap.push _)[w2.heap.size]? = _
      simp
    · intro e; have := (own.lt _ e).2; omega)
  have HB := Lib.hid (bt hb (below_alloc w2 (.cells #[.slice A2 xs.length c2, .slice none 0 0, .int .i64 0] 44)))
  clear own hb
  go_wp2
  go_returns
  exact ⟨_, _, _, rfl, TP, HB⟩
end Go.Proofs.YtdnakmbfkpjaeaaDoor
