import Derived.Test.YtgfaadfkeeehgaaAwake
namespace Go.Proofs.Ytgfaadfkeeehgaa
open Go.ChangeShapes Go.WideShapes Go.ChangeAt Go.RowKit
set_option linter.unusedVariables false
theorem lit_cells (w : World) (xs : List Nat) : ∀ j, j < xs.length → (w.alloc (.cells (bys xs).toArray 5)).cell? ⟨w.heap.size, 0 + j, none⟩ = some (.int .u8 (xs.getD j 0 : Nat)) := by
  intro j hj
  have := (MapKept.heap_alloc w (Obj.cells (bys xs).toArray 5)).1
  unfold World.cell?
  rw [this]
  simp [bys, hj]
theorem get_lit (w : World) (c : Nat) (t : List Nat) (r : (Int × Int × Int) × Int) (h : getS (c :: t) = r) (hc : c < 256) (hl : t.length ≤ 900) :
    Calls Try.prog 8 #[.slice (some ⟨w.heap.size, 0, none⟩) (t.length + 1) (t.length + 1)] (w.alloc (.cells (bys (c :: t)).toArray 5)) fun e w' => e = .returned (.tuple #[.agg #[.int .i64 r.1.1, .int .i64 r.1.2.1, .int .i64 r.1.2.2], .int .i64 r.2, .int .i64 (errG r.2)]) ∧ Below w.heap.size w w' := by
  subst h
  exact (codeget (lit_cells w (c :: t)) (by simp) hc (by omega) (Nat.le_refl _)).mono fun e w' ⟨he, hb⟩ => ⟨he, bt (below_alloc w _) hb⟩
theorem all_lit (w : World) (bs : List Nat) (hc : ∀ j, bs.getD j 0 < 256) (hl : bs.length ≤ 900) :
    Calls Try.prog 9 #[.slice (some ⟨w.heap.size, 0, none⟩) bs.length bs.length] (w.alloc (.cells (bys bs).toArray 5)) fun e w' => AllPost (w.alloc (.cells (bys bs).toArray 5)) bs e w' :=
  all_any (lit_cells w bs) (by simp) hc (by omega) (Nat.le_refl _)
theorem k1 (w : World) : Calls Try.prog 8 #[.slice (some ⟨w.heap.size, 0, none⟩) 1 1] (w.alloc (.cells #[.int .u8 64] 5)) fun e w' => e = .returned (.tuple #[.agg #[.int .i64 0, .int .i64 0, .int .i64 0], .int .i64 0, .int .i64 3]) ∧ Below w.heap.size w w' := by
  have h := get_lit w 64 [] ((0, 0, 0), 0) (by decide +kernel) (by omega) (by simp)
  exact h
theorem k2 (w : World) : Calls Try.prog 8 #[.slice (some ⟨w.heap.size, 0, none⟩) 2 2] (w.alloc (.cells #[.int .u8 64, .int .u8 0] 5)) fun e w' => e = .returned (.tuple #[.agg #[.int .i64 0, .int .i64 0, .int .i64 0], .int .i64 0, .int .i64 3]) ∧ Below w.heap.size w w' := by
  have h := get_lit w 64 [0] ((0, 0, 0), 0) (by decide +kernel) (by omega) (by simp)
  exact h
theorem k3 (w : World) : Calls Try.prog 8 #[.slice (some ⟨w.heap.size, 0, none⟩) 3 3] (w.alloc (.cells #[.int .u8 64, .int .u8 129, .int .u8 0] 5)) fun e w' => e = .returned (.tuple #[.agg #[.int .i64 0, .int .i64 0, .int .i64 0], .int .i64 0, .int .i64 3]) ∧ Below w.heap.size w w' := by
  have h := get_lit w 64 [129, 0] ((0, 0, 0), 0) (by decide +kernel) (by omega) (by simp)
  exact h
theorem a1 (w : World) : Calls Try.prog 9 #[.slice (some ⟨w.heap.size, 0, none⟩) 5 5] (w.alloc (.cells #[.int .u8 1, .int .u8 66, .int .u8 4, .int .u8 128, .int .u8 3] 5)) fun e w' => ∃ v, e = .returned (.tuple #[v, .int .i64 0]) ∧ w'.ownsRow (w.heap.size + 1) 24 3 v 3 [.int .i64 1, .int .i64 0, .int .i64 0, .int .i64 2, .int .i64 2, .int .i64 0, .int .i64 0, .int .i64 0, .int .i64 (-2)] ∧ Below w.heap.size w w' := by
  have h := all_lit w [1, 66, 4, 128, 3] (by intro j; match j with | 0 => decide | 1 => decide | 2 => decide | 3 => decide | 4 => decide | n + 5 => simp) (by simp)
  refine Calls.mono (show Calls Try.prog 9 #[.slice (some ⟨w.heap.size, 0, none⟩) 5 5] (w.alloc (.cells #[.int .u8 1, .int .u8 66, .int .u8 4, .int .u8 128, .int .u8 3] 5)) _ from h) fun e w' hp => ?_
  have s : allS ([1, 66, 4, 128, 3].length + 1) [1, 66, 4, 128, 3] = some [(1, 0, 0), (2, 2, 0), (0, 0, -2)] := by decide +kernel
  unfold AllPost at hp
  rw [s] at hp
  obtain ⟨v, x, he, hb, rfl, own⟩ := hp
  refine ⟨v, he, ?_, bt (below_alloc w _) hb⟩
  have hs : (w.alloc (.cells (bys [1, 66, 4, 128, 3]).toArray 5)).heap.size = w.heap.size + 1 := by simp
  rw [hs] at own
  exact own
theorem a2 (w : World) : Calls Try.prog 9 #[.slice (some ⟨w.heap.size, 0, none⟩) 2 2] (w.alloc (.cells #[.int .u8 1, .int .u8 64] 5)) fun e w' => e = .returned (.tuple #[.slice none 0 0, .int .i64 3]) ∧ Below w.heap.size w w' := by
  have h := all_lit w [1, 64] (by intro j; match j with | 0 => decide | 1 => decide | n + 2 => simp) (by simp)
  refine Calls.mono (show Calls Try.prog 9 #[.slice (some ⟨w.heap.size, 0, none⟩) 2 2] (w.alloc (.cells #[.int .u8 1, .int .u8 64] 5)) _ from h) fun e w' hp => ?_
  have s : allS ([1, 64].length + 1) [1, 64] = none := by decide +kernel
  unfold AllPost at hp
  rw [s] at hp
  obtain ⟨v, x, he, hb, rfl, rfl⟩ := hp
  exact ⟨he, bt (below_alloc w _) hb⟩
theorem k1' (w : World) (o : Obj) : Calls Try.prog 8 #[.slice (some ⟨w.heap.size + 1, 0, none⟩) 1 1] ((w.alloc o).alloc (.cells #[.int .u8 64] 5)) fun e w' => e = .returned (.tuple #[.agg #[.int .i64 0, .int .i64 0, .int .i64 0], .int .i64 0, .int .i64 3]) ∧ Below w.heap.size w w' := by
  have h := k1 (w.alloc o)
  rw [show (w.alloc o).heap.size = w.heap.size + 1 from by simp] at h
  exact h.mono fun e w' ⟨he, hb⟩ => ⟨he, (below_alloc w o).trans (hb.mono (by omega))⟩
theorem k2' (w : World) (o : Obj) : Calls Try.prog 8 #[.slice (some ⟨w.heap.size + 1, 0, none⟩) 2 2] ((w.alloc o).alloc (.cells #[.int .u8 64, .int .u8 0] 5)) fun e w' => e = .returned (.tuple #[.agg #[.int .i64 0, .int .i64 0, .int .i64 0], .int .i64 0, .int .i64 3]) ∧ Below w.heap.size w w' := by
  have h := k2 (w.alloc o)
  rw [show (w.alloc o).heap.size = w.heap.size + 1 from by simp] at h
  exact h.mono fun e w' ⟨he, hb⟩ => ⟨he, (below_alloc w o).trans (hb.mono (by omega))⟩
theorem k3' (w : World) (o : Obj) : Calls Try.prog 8 #[.slice (some ⟨w.heap.size + 1, 0, none⟩) 3 3] ((w.alloc o).alloc (.cells #[.int .u8 64, .int .u8 129, .int .u8 0] 5)) fun e w' => e = .returned (.tuple #[.agg #[.int .i64 0, .int .i64 0, .int .i64 0], .int .i64 0, .int .i64 3]) ∧ Below w.heap.size w w' := by
  have h := k3 (w.alloc o)
  rw [show (w.alloc o).heap.size = w.heap.size + 1 from by simp] at h
  exact h.mono fun e w' ⟨he, hb⟩ => ⟨he, (below_alloc w o).trans (hb.mono (by omega))⟩
theorem a1' (w : World) (o : Obj) : Calls Try.prog 9 #[.slice (some ⟨w.heap.size + 1, 0, none⟩) 5 5] ((w.alloc o).alloc (.cells #[.int .u8 1, .int .u8 66, .int .u8 4, .int .u8 128, .int .u8 3] 5)) fun e w' => ∃ g cap, e = .returned (.tuple #[.slice (some ⟨g, 0, none⟩) 3 cap, .int .i64 0]) ∧ w'.ownsRow w.heap.size 24 3 (.slice (some ⟨g, 0, none⟩) 3 cap) 3 [.int .i64 1, .int .i64 0, .int .i64 0, .int .i64 2, .int .i64 2, .int .i64 0, .int .i64 0, .int .i64 0, .int .i64 (-2)] ∧ Below w.heap.size w w' := by
  have h := a1 (w.alloc o)
  rw [show (w.alloc o).heap.size = w.heap.size + 1 from by simp] at h
  refine h.mono fun e w' ⟨v, he, own, hb⟩ => ?_
  rcases own.2 with ⟨_, h0⟩ | ⟨g, cap, cur, rfl, _⟩
  · exact absurd h0 (by decide)
  exact ⟨g, cap, he, own_mono own (by omega), (below_alloc w o).trans (hb.mono (by omega))⟩
set_option maxRecDepth 100000 in
set_option maxHeartbeats 1000000 in
theorem known (w : World) : Calls Try.prog 3 #[] w fun e w' => e = .returned (.bool true) ∧ Below w.heap.size w w' := by
  have PUT := Lib.hid (fun w => put_src (w := w) (v := .slice none 0 0) (xs := []) (-1) 0 0 (.inl ⟨rfl, rfl⟩) (by simp) (Lib.hid (by omega)) (Lib.hid (by omega)) (Lib.hid (by omega)) (Lib.hid (by omega)))
  have se1 : ∀ W, (binOp .eql 24 (.agg #[.int .i64 2, .int .i64 2, .int .i64 0]) (.agg #[.int .i64 2, .int .i64 2, .int .i64 0])).run Try.prog W = .ok (.bool true) W := fun _ => by kernel_rfl
  have se2 : ∀ W, (binOp .eql 24 (.agg #[.int .i64 0, .int .i64 0, .int .i64 (-2)]) (.agg #[.int .i64 0, .int .i64 0, .int .i64 (-2)])).run Try.prog W = .ok (.bool true) W := fun _ => by kernel_rfl
  go_enter Try.func3, Try.ntmps3
  go_wp2_with fail
  refine (awake _).mono ?_; rintro e w1 ⟨rfl, hb1⟩
  go_wp2_with fail
  refine (get_nil _).mono ?_; rintro e w2 ⟨rfl, hb2⟩
  have B2 := Lib.hid (bt hb1 hb2); clear hb1 hb2
  go_wp2_with fail
  refine (k1' _ _).mono ?_; rintro e w3 ⟨rfl, hb3⟩
  have B3 := Lib.hid (bt B2.out hb3); clear hb3
  go_wp2_with fail
  refine (k2' _ _).mono ?_; rintro e w4 ⟨rfl, hb4⟩
  have B4 := Lib.hid (bt B3.out hb4); clear hb4
  go_wp2_with fail
  refine (k3' _ _).mono ?_; rintro e w5 ⟨rfl, hb5⟩
  have B5 := Lib.hid (bt B4.out hb5); clear hb5
  go_wp2_with fail
  refine (a1' _ _).mono ?_; rintro e w6 ⟨g, cap, rfl, own, hb6⟩
  have B6 := Lib.hid (bt B5.out hb6); clear hb6
  have OWN := Lib.hid own; clear own
  go_wp2_with fail
  refine (a2 _).mono ?_; rintro e w7 ⟨rfl, hb7⟩
  have B7 := Lib.hid (bt B6.out hb7)
  have own7 := own_below OWN.out hb7
  have x3 := own7.cellAt 3 (by omega)
  have x4 := own7.cellAt 4 (by omega)
  have x5 := own7.cellAt 5 (by omega)
  have x6 := own7.cellAt 6 (by omega)
  have x7 := own7.cellAt 7 (by omega)
  have x8 := own7.cellAt 8 (by omega)
  simp only [List.getElem?_cons_succ, List.getElem?_cons_zero] at x3 x4 x5 x6 x7 x8
  clear hb7 own7
  go_wp2_with fail
  refine (good_any _ _ _ _).mono ?_; rintro e w8 ⟨rfl, hb8⟩
  have B8 := Lib.hid (bt B7.out hb8); clear hb8
  go_wp2_with fail
  refine (PUT.out _).mono ?_; rintro e w9 ⟨v, n, rfl, own9, hb9⟩
  have B9 := Lib.hid (bt B8.out hb9); clear hb9
  have hv := own_open own9
  clear own9
  rcases hv with ⟨rfl, _⟩ | ⟨g9, c9, rfl, _⟩
  · go_wp2
    go_ret
    exact ⟨rfl, B9.out⟩
  · go_wp2
    go_ret
    exact ⟨rfl, B9.out⟩
end Go.Proofs.Ytgfaadfkeeehgaa
