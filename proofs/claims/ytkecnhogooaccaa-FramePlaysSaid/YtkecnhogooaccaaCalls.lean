import Derived.Test.YtkecnhogooaccaaBase
namespace Go.Proofs.Ytkecnhogooaccaa
open Go.ChangeShapes Go.WideShapes Go.ChangeAt Go.RowKit
set_option linter.unusedVariables false
theorem clone_some {w : World} {a : Addr} {c : Nat} {xs : List Int} (h : ∀ j u, (wds xs)[j]? = some u → w.cell? (a.add j) = some u) (hl : xs.length ≤ 1000000) :
    Calls Try.prog 40 #[.slice (some a) xs.length c] w fun e w' => ∃ v, e = .returned v ∧ w'.ownsRow w.heap.size 30 1 v xs.length (wds xs) ∧ Below w.heap.size w w' := by
  obtain ⟨i0, hi0, hz0, hz1, hz2⟩ := info_parts info30
  have hh : ∀ j u, (wds xs)[j]? = some u → (w.alloc (.cells #[] 30)).cell? (a.add j) = some u := fun j u hu => by
    have := h j u hu
    rw [(below_alloc w (.cells #[] 30)).cell (World.block_lt_of_cell? w _ this)]; exact this
  have H := Lib.hid hh
  have en : ∀ W, (binOp .eql 35 (.slice (some a) xs.length c) (.slice none 0 0)).run Try.prog W = .ok (.bool false) W := fun W => Lib.run_eql_slice_nil W 35 30 (some a) xs.length c 0 0 Try.underlying35
  clear h hh
  go_enter Try.func40, Try.ntmps40
  go_wp2_with (at_builtin; refine wpList_append_own _ rfl (.tmp 5) (.tmp 6) 35 rfl w.heap.size 30 i0 (.int .u64 0) 1 8 Try.underlying35 hi0 hz0 hz1 hz2 rfl (by decide) _ 0 [] rfl (World.ownsRow_lit w #[] 0 (Nat.le_refl _) (by unfold maxLen; omega) rfl) a _ _ (wds xs) rfl (by simp [wds]) H.out (wds_one xs) (by unfold maxLen; omega) (by omega) (by simp) ?_)
  intro v2 w2 own2 gr2 _
  have hb2 : Below w.heap.size w w2 := (below_alloc w (.cells #[] 30)).grown gr2 (by simp) (fun q hq => by simp [Value.ownBlock] at hq; omega)
  have OWN2 := Lib.hid own2; have HB2 := Lib.hid hb2
  clear own2 gr2 hb2
  go_wp2
  go_ret
  exact ⟨_, rfl, by have := OWN2.out; simpa using this, HB2.out⟩
set_option maxRecDepth 100000 in
theorem clone_nil (w : World) : Calls Try.prog 40 #[.slice none 0 0] w fun e w' => e = .returned (.slice none 0 0) ∧ Below w.heap.size w w' := by
  have en : ∀ W, (binOp .eql 35 (.slice none 0 0) (.slice none 0 0)).run Try.prog W = .ok (.bool true) W := fun W => Lib.run_eql_slice_nil W 35 30 none 0 0 0 0 Try.underlying35
  go_enter Try.func40, Try.ntmps40
  go_wp2
  go_ret
  exact ⟨rfl, Below.refl _ _⟩
theorem clone_own {w : World} {B : Nat} {v : Value} {xs : List Int} (h : w.ownsRow B 30 1 v xs.length (wds xs)) (hl : xs.length ≤ 1000000) :
    Calls Try.prog 40 #[v] w fun e w' => ∃ v, e = .returned v ∧ w'.ownsRow w.heap.size 30 1 v xs.length (wds xs) ∧ Below w.heap.size w w' := by
  rcases h.2 with ⟨rfl, h0⟩ | ⟨g, cap, cur, rfl, _⟩
  · have hx : xs = [] := List.eq_nil_of_length_eq_zero h0
    subst hx
    exact (clone_nil w).mono fun e w' ⟨he, hb⟩ => ⟨_, he, World.ownsRow_nil _ _ _ _, hb⟩
  · exact clone_some (h.cells rfl) hl
set_option maxRecDepth 100000 in
set_option maxHeartbeats 2000000 in
theorem roots_any {w : World} {B g room : Nat} {fv wv : Value} {fr : List Fm} {ws : List Int} (t : Sk w B g room fv wv fr ws) :
    Calls Try.prog 14 #[.pointer (some ⟨g, 0, none⟩)] w fun e w' => ∃ A c, e = .returned (.slice A ws.length c) ∧ Hid (w'.ownsRow w.heap.size 30 1 (.slice A ws.length c) ws.length (wds ws)) ∧ Hid (Below w.heap.size w w') := by
  have c2 := t.obj.c2
  have RW := Lib.hid t.rw_
  have hl : ws.length ≤ 1000000 := by have := t.fits; have := t.small; omega
  obtain ⟨A, c, rfl⟩ := vform t.rw_
  clear t
  go_enter Try.func14, Try.ntmps14
  go_wp2_with fail
  refine (clone_own RW.out hl).mono ?_
  rintro e w2 ⟨v, rfl, own, hb⟩
  obtain ⟨A2, c2, rfl⟩ := vform own
  have OWN := Lib.hid own; have HB := Lib.hid hb; clear own hb
  go_wp2
  go_ret
  exact ⟨_, _, rfl, OWN, HB⟩
set_option maxRecDepth 100000 in
set_option maxHeartbeats 2000000 in
theorem top_none {w : World} {B g room : Nat} {fv wv : Value} {ws : List Int} (t : Sk w B g room fv wv [] ws) :
    Calls Try.prog 43 #[.pointer (some ⟨g, 0, none⟩)] w fun e w' => e = .returned (.tuple #[.agg #[.int .i64 0, .int .i64 0, .int .i64 0, .int .i64 0], .bool false]) ∧ Below w.heap.size w w' := by
  have t := t.below (below_alloc w (.cells #[.int .i64 0, .int .i64 0, .int .i64 0, .int .i64 0] 71))
  have c1 := t.obj.c1
  obtain ⟨A, c, rfl⟩ := vform t.rf
  have e0 : ([] : List Fm).length = 0 := rfl
  rw [e0] at c1
  clear t
  go_enter Try.func43, Try.ntmps43
  go_wp2
  go_returns
  exact ⟨rfl, below_alloc _ _⟩
set_option maxRecDepth 100000 in
set_option maxHeartbeats 2000000 in
theorem top_some {w : World} {B g room : Nat} {fv wv : Value} {fr : List Fm} {f : Fm} {ws : List Int} (t : Sk w B g room fv wv (fr ++ [f]) ws) :
    Calls Try.prog 43 #[.pointer (some ⟨g, 0, none⟩)] w fun e w' => e = .returned (.tuple #[.agg #[.int .i64 f.back, .int .i64 f.call, .int .i64 f.base, .int .i64 f.slots], .bool true]) ∧ Below w.heap.size w w' := by
  have t := t.below (below_alloc w (.cells #[.int .i64 0, .int .i64 0, .int .i64 0, .int .i64 0] 71))
  have c1 := t.obj.c1
  obtain ⟨gf, cf, rfl⟩ := Go.Joins.ownsRow_form t.rf (by simp)
  obtain ⟨n, hn⟩ : ∃ n, n = fr.length := ⟨_, rfl⟩
  have hl : (fr ++ [f]).length = n + 1 := by rw [hn]; simp
  have hfa := frs_at (fr ++ [f]) n f (by rw [hn]; simp)
  have k0 := (t.rf.cellAt (n * 4) (by rw [hl]; omega)).trans hfa.1
  have k1 := (t.rf.cellAt (n * 4 + 1) (by rw [hl]; omega)).trans hfa.2.1
  have k2 := (t.rf.cellAt (n * 4 + 2) (by rw [hl]; omega)).trans hfa.2.2.1
  have k3 := (t.rf.cellAt (n * 4 + 3) (by rw [hl]; omega)).trans hfa.2.2.2
  have hb : n ≤ 4096 := by have := t.fits; have := t.small; rw [hl] at *; omega
  rw [hl] at c1
  obtain ⟨N, hN⟩ : ∃ N : Nat, N = n + 1 := ⟨_, rfl⟩
  rw [← hN] at c1
  have hN1 : (N : Int) - 1 = (n : Int) := by omega
  have hN0 : ((N : Int) == 0) = false := beq_eq_false_iff_ne.2 (by omega)
  have hN0' : (N == 0) = false := beq_eq_false_iff_ne.2 (by omega)
  have hn0 : (0 : Int) ≤ (n : Int) := Int.natCast_nonneg _
  have hnN : (n : Int) < (N : Int) := by omega
  obtain ⟨bk, cl, bs, sl⟩ := f
  simp only at k0 k1 k2 k3 ⊢
  clear t hfa hl hn hN
  go_enter Try.func43, Try.ntmps43
  go_wp2
  go_region
  all_goals (
    go_wp2
    go_returns
    exact ⟨rfl, bt (below_alloc _ _) ⟨rfl, rfl, rfl, Nat.le_refl _, fun _ _ => rfl⟩⟩)
end Go.Proofs.Ytkecnhogooaccaa
