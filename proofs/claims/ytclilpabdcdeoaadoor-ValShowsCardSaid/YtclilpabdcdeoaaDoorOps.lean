/- ValOps: Op and Wrap agree with the reference at every name and every two numbers. -/
import Derived.Test.YtclilpabdcdeoaaDoorRing
import Derived.Deep.RegionHeld3
namespace Go.Proofs.YtclilpabdcdeoaaDoor
open Go.ChangeShapes Go.WideShapes Go.ChangeAt Go.RowKit
def rnum (k n : Int) : Value := .agg #[.int .i64 k, .int .i64 n, .string .empty, .slice none 0 0, .int .i64 0, .pointer none, .int .i64 0, .int .i64 0]
theorem vl_any (k n : Int) (w : World) : Calls Tryd.prog 18 #[num k n] w fun e w' => e = .returned (rnum k n) ∧ Below w.heap.size w w' := by
  unfold num rnum
  go_enter Tryd.func18, Tryd.ntmps18
  go_wp2
  refine wp_loop_rounds 1 ?_
  rw [rounds_succ]
  go_wp2
  go_returns
  exact ⟨rfl, by go_grown⟩
theorem same_any (k n : Int) (w : World) : Calls Tryd.prog 17 #[rnum k n, rnum k n] w fun e w' => e = .returned (.bool true) ∧ Below w.heap.size w w' := by
  unfold rnum
  go_enter Tryd.func17, Tryd.ntmps17
  go_wp2
  refine wp_loop_rounds 1 ?_
  rw [rounds_succ]
  go_wp2
  go_returns
  exact ⟨rfl, by go_grown⟩
theorem rwrap_any (n : Int) (w : World) : Calls Tryd.prog 20 #[.int .i64 n] w fun e w' => e = .returned (.int .i64 (wrap63 n)) ∧ w = w' := by
  go_enter Tryd.func20, Tryd.ntmps20
  go_wp2
  go_ret
  exact ⟨rfl, rfl⟩
def opR (s : ByteArray) (a b : Int) : Int × Int × Bool :=
  if (s.toList == [43]) = true then (1, wrap63 (wrap64 (a + b)), true)
  else if (s.toList == [45]) = true then (1, wrap63 (wrap64 (a - b)), true)
  else if (s.toList == [42]) = true then (1, wrap63 (wrap64 (a * b)), true)
  else if (s.toList == [60]) = true then (2, if a < b then 1 else 0, true)
  else if (s.toList == [61]) = true then (2, if a = b then 1 else 0, true)
  else (0, 0, false)
set_option maxHeartbeats 4000000 in
theorem op_any (s : ByteArray) (a b : Int) (w : World) : Calls Tryd.prog 10 #[.string s, .int .i64 a, .int .i64 b] w fun e w' => e = .returned (.tuple #[num (opR s a b).1 (opR s a b).2.1, .bool (opR s a b).2.2]) ∧ Below w.heap.size w w' := by
  cases h1 : (s.toList == [43]) with
  | true =>
    rw [show opR s a b = (1, wrap63 (wrap64 (a + b)), true) from if_pos h1]
    go_enter Tryd.func10, Tryd.ntmps10
    go_wp2
    go_returns
    exact ⟨rfl, by go_grown⟩
  | false =>
  cases h2 : (s.toList == [45]) with
  | true =>
    rw [show opR s a b = (1, wrap63 (wrap64 (a - b)), true) from by unfold opR; rw [h1, h2]; rfl]
    go_enter Tryd.func10, Tryd.ntmps10
    go_wp2
    go_returns
    exact ⟨rfl, by go_grown⟩
  | false =>
  cases h3 : (s.toList == [42]) with
  | true =>
    rw [show opR s a b = (1, wrap63 (wrap64 (a * b)), true) from by unfold opR; rw [h1, h2, h3]; rfl]
    go_enter Tryd.func10, Tryd.ntmps10
    go_wp2
    go_returns
    exact ⟨rfl, by go_grown⟩
  | false =>
  cases h4 : (s.toList == [60]) with
  | true =>
    by_cases hlt : a < b
    · rw [show opR s a b = (2, 1, true) from by unfold opR; rw [h1, h2, h3, h4, if_pos hlt]; rfl]
      go_enter Tryd.func10, Tryd.ntmps10
      go_wp2
      go_returns
      exact ⟨rfl, by go_grown⟩
    · rw [show opR s a b = (2, 0, true) from by unfold opR; rw [h1, h2, h3, h4, if_neg hlt]; rfl]
      have hge : b ≤ a := by omega
      clear hlt
      go_enter Tryd.func10, Tryd.ntmps10
      go_wp2
      go_returns
      exact ⟨rfl, by go_grown⟩
  | false =>
  cases h5 : (s.toList == [61]) with
  | true =>
    by_cases heq : a = b
    · rw [show opR s a b = (2, 1, true) from by unfold opR; rw [h1, h2, h3, h4, h5, if_pos heq]; rfl]
      subst heq
      go_enter Tryd.func10, Tryd.ntmps10
      go_wp2
      go_returns
      exact ⟨rfl, by go_grown⟩
    · rw [show opR s a b = (2, 0, true) from by unfold opR; rw [h1, h2, h3, h4, h5, if_neg heq]; rfl]
      have hne : (a == b) = false := beq_eq_false_iff_ne.2 heq
      clear heq
      go_enter Tryd.func10, Tryd.ntmps10
      go_wp2
      go_returns
      exact ⟨rfl, by go_grown⟩
  | false =>
    rw [show opR s a b = (0, 0, false) from by unfold opR; rw [h1, h2, h3, h4, h5]; rfl]
    go_enter Tryd.func10, Tryd.ntmps10
    go_wp2
    go_returns
    exact ⟨rfl, by go_grown⟩
set_option maxHeartbeats 4000000 in
theorem rop_any (s : ByteArray) (a b : Int) (w : World) : Calls Tryd.prog 16 #[.string s, .int .i64 a, .int .i64 b] w fun e w' => e = .returned (.tuple #[rnum (opR s a b).1 (opR s a b).2.1, .bool (opR s a b).2.2]) ∧ Below w.heap.size w w' := by
  cases h1 : (s.toList == [43]) with
  | true =>
    rw [show opR s a b = (1, wrap63 (wrap64 (a + b)), true) from if_pos h1]
    go_enter Tryd.func16, Tryd.ntmps16
    go_wp2
    go_returns
    exact ⟨rfl, by go_grown⟩
  | false =>
  cases h2 : (s.toList == [45]) with
  | true =>
    rw [show opR s a b = (1, wrap63 (wrap64 (a - b)), true) from by unfold opR; rw [h1, h2]; rfl]
    go_enter Tryd.func16, Tryd.ntmps16
    go_wp2
    go_returns
    exact ⟨rfl, by go_grown⟩
  | false =>
  cases h3 : (s.toList == [42]) with
  | true =>
    rw [show opR s a b = (1, wrap63 (wrap64 (a * b)), true) from by unfold opR; rw [h1, h2, h3]; rfl]
    go_enter Tryd.func16, Tryd.ntmps16
    go_wp2
    go_returns
    exact ⟨rfl, by go_grown⟩
  | false =>
  cases h4 : (s.toList == [60]) with
  | true =>
    by_cases hlt : a < b
    · rw [show opR s a b = (2, 1, true) from by unfold opR; rw [h1, h2, h3, h4, if_pos hlt]; rfl]
      go_enter Tryd.func16, Tryd.ntmps16
      go_wp2
      go_returns
      exact ⟨rfl, by go_grown⟩
    · rw [show opR s a b = (2, 0, true) from by unfold opR; rw [h1, h2, h3, h4, if_neg hlt]; rfl]
      have hge : b ≤ a := by omega
      clear hlt
      go_enter Tryd.func16, Tryd.ntmps16
      go_wp2
      go_returns
      exact ⟨rfl, by go_grown⟩
  | false =>
  cases h5 : (s.toList == [61]) with
  | true =>
    by_cases heq : a = b
    · rw [show opR s a b = (2, 1, true) from by unfold opR; rw [h1, h2, h3, h4, h5, if_pos heq]; rfl]
      subst heq
      go_enter Tryd.func16, Tryd.ntmps16
      go_wp2
      go_returns
      exact ⟨rfl, by go_grown⟩
    · rw [show opR s a b = (2, 0, true) from by unfold opR; rw [h1, h2, h3, h4, h5, if_neg heq]; rfl]
      have hne : (a == b) = false := beq_eq_false_iff_ne.2 heq
      clear heq
      go_enter Tryd.func16, Tryd.ntmps16
      go_wp2
      go_returns
      exact ⟨rfl, by go_grown⟩
  | false =>
    rw [show opR s a b = (0, 0, false) from by unfold opR; rw [h1, h2, h3, h4, h5]; rfl]
    go_enter Tryd.func16, Tryd.ntmps16
    go_wp2
    go_returns
    exact ⟨rfl, by go_grown⟩
def box8 (k n : Int) : Obj := .cells #[.int .i64 k, .int .i64 n, .string .empty, .slice none 0 0, .int .i64 0, .pointer none, .int .i64 0, .int .i64 0] 46
theorem box_at {W : World} {vs : Array Value} {t : Nat} (j : Nat) {v : Value} (h : vs[j]? = some v) : (W.alloc (.cells vs t)).cell? ⟨W.heap.size, j, none⟩ = some v := by
  have := (MapKept.heap_alloc W (.cells vs t)).1
  unfold World.cell?
  rw [this]; simpa using h
theorem belowD {w a : World} (h : Below w.heap.size w a) : Below w.heap.size w a.drew := h.trans ⟨rfl, rfl, rfl, Nat.le_refl _, fun _ _ => rfl⟩
set_option maxHeartbeats 4000000 in
set_option maxRecDepth 100000 in
theorem ops_walk (s : ByteArray) (a b : Int) (w : World) (hs : s.size ≤ maxLen) : Calls Tryd.prog 4 #[.string s, .int .i64 a, .int .i64 b] w fun e w' => e = .returned (.bool true) ∧ Below w.heap.size w w' := by
  unfold maxLen at hs
  by_cases hl : (20 : Int) < s.size
  · go_enter Tryd.func4, Tryd.ntmps4
    go_wp2_with fail
    refine (awake _).mono ?_; rintro e w1 ⟨rfl, hb1⟩
    go_wp2
    all_goals (go_ret; exact ⟨rfl, hb1⟩)
  have hl' : s.size ≤ 20 := by omega
  clear hl
  obtain ⟨k, n, ok, hr⟩ : ∃ k n ok, opR s a b = (k, n, ok) := ⟨_, _, _, rfl⟩
  have HR := Lib.hid hr; clear hr
  obtain ⟨x, hx⟩ : ∃ x, x = wrap63 a := ⟨_, rfl⟩
  have x1 := c63_in a; rw [← hx] at x1
  obtain ⟨x1, x2⟩ := x1
  have hxx : wrap63 x = x := by rw [c63]; omega
  have hdl : decide ((-4611686018427387904 : Int) ≤ x) = true := decide_eq_true x1
  have hdr : decide (x < (4611686018427387904 : Int)) = true := decide_eq_true (by omega)
  have HX := Lib.hid hx; have HXX := Lib.hid hxx; clear hx hxx
  go_enter Tryd.func4, Tryd.ntmps4
  go_wp2_with fail
  refine (awake _).mono ?_; rintro e w1 ⟨rfl, hb1⟩
  go_wp2_with fail
  refine (op_any _ _ _ _).mono ?_; rintro e w2 ⟨rfl, hb2⟩
  rw [HR.out]
  have B2 := Lib.hid (below2 hb1 hb2); clear hb1 hb2
  unfold num
  go_wp2_with fail
  refine (rop_any _ _ _ _).mono ?_; rintro e w3 ⟨rfl, hb3⟩
  rw [HR.out]
  have B3 := Lib.hid (below2 (below2 B2.out (belowA _ _)) hb3)
  have c0 := Lib.hid (keepC hb3 (box_at (W := w2) (t := 26) (vs := #[.int .i64 k, .int .i64 n, .string .empty, .slice none 0 0, .int .i64 0, .pointer none, .int .i64 0]) 0 rfl))
  have c1 := Lib.hid (keepC hb3 (box_at (W := w2) (t := 26) (vs := #[.int .i64 k, .int .i64 n, .string .empty, .slice none 0 0, .int .i64 0, .pointer none, .int .i64 0]) 1 rfl))
  have c2 := Lib.hid (keepC hb3 (box_at (W := w2) (t := 26) (vs := #[.int .i64 k, .int .i64 n, .string .empty, .slice none 0 0, .int .i64 0, .pointer none, .int .i64 0]) 2 rfl))
  have c3 := Lib.hid (keepC hb3 (box_at (W := w2) (t := 26) (vs := #[.int .i64 k, .int .i64 n, .string .empty, .slice none 0 0, .int .i64 0, .pointer none, .int .i64 0]) 3 rfl))
  have c4 := Lib.hid (keepC hb3 (box_at (W := w2) (t := 26) (vs := #[.int .i64 k, .int .i64 n, .string .empty, .slice none 0 0, .int .i64 0, .pointer none, .int .i64 0]) 4 rfl))
  have c5 := Lib.hid (keepC hb3 (box_at (W := w2) (t := 26) (vs := #[.int .i64 k, .int .i64 n, .string .empty, .slice none 0 0, .int .i64 0, .pointer none, .int .i64 0]) 5 rfl))
  have c6 := Lib.hid (keepC hb3 (box_at (W := w2) (t := 26) (vs := #[.int .i64 k, .int .i64 n, .string .empty, .slice none 0 0, .int .i64 0, .pointer none, .int .i64 0]) 6 rfl))
  clear hb3
  unfold rnum
  go_wp2_with fail
  have d0 := keepA (.cells #[.int .i64 k, .int .i64 n, .string .empty, .slice none 0 0, .int .i64 0, .pointer none, .int .i64 0, .int .i64 0] 46) c0.out
  have d1 := keepA (.cells #[.int .i64 k, .int .i64 n, .string .empty, .slice none 0 0, .int .i64 0, .pointer none, .int .i64 0, .int .i64 0] 46) c1.out
  have d2 := keepA (.cells #[.int .i64 k, .int .i64 n, .string .empty, .slice none 0 0, .int .i64 0, .pointer none, .int .i64 0, .int .i64 0] 46) c2.out
  have d3 := keepA (.cells #[.int .i64 k, .int .i64 n, .string .empty, .slice none 0 0, .int .i64 0, .pointer none, .int .i64 0, .int .i64 0] 46) c3.out
  have d4 := keepA (.cells #[.int .i64 k, .int .i64 n, .string .empty, .slice none 0 0, .int .i64 0, .pointer none, .int .i64 0, .int .i64 0] 46) c4.out
  have d5 := keepA (.cells #[.int .i64 k, .int .i64 n, .string .empty, .slice none 0 0, .int .i64 0, .pointer none, .int .i64 0, .int .i64 0] 46) c5.out
  have d6 := keepA (.cells #[.int .i64 k, .int .i64 n, .string .empty, .slice none 0 0, .int .i64 0, .pointer none, .int .i64 0, .int .i64 0] 46) c6.out
  have e0 := box_at (W := w3) (t := 46) (vs := #[.int .i64 k, .int .i64 n, .string .empty, .slice none 0 0, .int .i64 0, .pointer none, .int .i64 0, .int .i64 0]) 0 rfl
  have e1 := box_at (W := w3) (t := 46) (vs := #[.int .i64 k, .int .i64 n, .string .empty, .slice none 0 0, .int .i64 0, .pointer none, .int .i64 0, .int .i64 0]) 1 rfl
  have e2 := box_at (W := w3) (t := 46) (vs := #[.int .i64 k, .int .i64 n, .string .empty, .slice none 0 0, .int .i64 0, .pointer none, .int .i64 0, .int .i64 0]) 2 rfl
  have e3 := box_at (W := w3) (t := 46) (vs := #[.int .i64 k, .int .i64 n, .string .empty, .slice none 0 0, .int .i64 0, .pointer none, .int .i64 0, .int .i64 0]) 3 rfl
  have e4 := box_at (W := w3) (t := 46) (vs := #[.int .i64 k, .int .i64 n, .string .empty, .slice none 0 0, .int .i64 0, .pointer none, .int .i64 0, .int .i64 0]) 4 rfl
  have e5 := box_at (W := w3) (t := 46) (vs := #[.int .i64 k, .int .i64 n, .string .empty, .slice none 0 0, .int .i64 0, .pointer none, .int .i64 0, .int .i64 0]) 5 rfl
  have e6 := box_at (W := w3) (t := 46) (vs := #[.int .i64 k, .int .i64 n, .string .empty, .slice none 0 0, .int .i64 0, .pointer none, .int .i64 0, .int .i64 0]) 6 rfl
  have e7 := box_at (W := w3) (t := 46) (vs := #[.int .i64 k, .int .i64 n, .string .empty, .slice none 0 0, .int .i64 0, .pointer none, .int .i64 0, .int .i64 0]) 7 rfl
  have B4 := Lib.hid (below2 B3.out (belowA w3 (.cells #[.int .i64 k, .int .i64 n, .string .empty, .slice none 0 0, .int .i64 0, .pointer none, .int .i64 0, .int .i64 0] 46)))
  go_region_held3 (fun w' => w'.cell? ⟨w2.heap.size, 0, none⟩ = some (.int .i64 k) ∧ w'.cell? ⟨w2.heap.size, 1, none⟩ = some (.int .i64 n) ∧ w'.cell? ⟨w2.heap.size, 2, none⟩ = some (.string .empty) ∧ w'.cell? ⟨w2.heap.size, 3, none⟩ = some (.slice none 0 0) ∧ w'.cell? ⟨w2.heap.size, 4, none⟩ = some (.int .i64 0) ∧ w'.cell? ⟨w2.heap.size, 5, none⟩ = some (.pointer none) ∧ w'.cell? ⟨w2.heap.size, 6, none⟩ = some (.int .i64 0) ∧ w'.cell? ⟨w3.heap.size, 0, none⟩ = some (.int .i64 k) ∧ w'.cell? ⟨w3.heap.size, 1, none⟩ = some (.int .i64 n) ∧ w'.cell? ⟨w3.heap.size, 2, none⟩ = some (.string .empty) ∧ w'.cell? ⟨w3.heap.size, 3, none⟩ = some (.slice none 0 0) ∧ w'.cell? ⟨w3.heap.size, 4, none⟩ = some (.int .i64 0) ∧ w'.cell? ⟨w3.heap.size, 5, none⟩ = some (.pointer none) ∧ w'.cell? ⟨w3.heap.size, 6, none⟩ = some (.int .i64 0) ∧ w'.cell? ⟨w3.heap.size, 7, none⟩ = some (.int .i64 0)) (go_keep) (first | (go_at_call 18; refine (vl_any k n _).mono ?_; rintro e w4 ⟨rfl, hb4⟩; unfold rnum; have fw20 := keepC hb4 (show World.cell? _ ⟨w2.heap.size, 0, none⟩ = some (.int .i64 k) by assumption); have fw21 := keepC hb4 (show World.cell? _ ⟨w2.heap.size, 1, none⟩ = some (.int .i64 n) by assumption); have fw22 := keepC hb4 (show World.cell? _ ⟨w2.heap.size, 2, none⟩ = some (.string .empty) by assumption); have fw23 := keepC hb4 (show World.cell? _ ⟨w2.heap.size, 3, none⟩ = some (.slice none 0 0) by assumption); have fw24 := keepC hb4 (show World.cell? _ ⟨w2.heap.size, 4, none⟩ = some (.int .i64 0) by assumption); have fw25 := keepC hb4 (show World.cell? _ ⟨w2.heap.size, 5, none⟩ = some (.pointer none) by assumption); have fw26 := keepC hb4 (show World.cell? _ ⟨w2.heap.size, 6, none⟩ = some (.int .i64 0) by assumption); have fw30 := keepC hb4 (show World.cell? _ ⟨w3.heap.size, 0, none⟩ = some (.int .i64 k) by assumption); have fw31 := keepC hb4 (show World.cell? _ ⟨w3.heap.size, 1, none⟩ = some (.int .i64 n) by assumption); have fw32 := keepC hb4 (show World.cell? _ ⟨w3.heap.size, 2, none⟩ = some (.string .empty) by assumption); have fw33 := keepC hb4 (show World.cell? _ ⟨w3.heap.size, 3, none⟩ = some (.slice none 0 0) by assumption); have fw34 := keepC hb4 (show World.cell? _ ⟨w3.heap.size, 4, none⟩ = some (.int .i64 0) by assumption); have fw35 := keepC hb4 (show World.cell? _ ⟨w3.heap.size, 5, none⟩ = some (.pointer none) by assumption); have fw36 := keepC hb4 (show World.cell? _ ⟨w3.heap.size, 6, none⟩ = some (.int .i64 0) by assumption); have fw37 := keepC hb4 (show World.cell? _ ⟨w3.heap.size, 7, none⟩ = some (.int .i64 0) by assumption)) | (go_at_call 17; refine (same_any k n _).mono ?_; rintro e w5 ⟨rfl, hb5⟩; have gw20 := keepC hb5 (show World.cell? _ ⟨w2.heap.size, 0, none⟩ = some (.int .i64 k) by assumption); have gw21 := keepC hb5 (show World.cell? _ ⟨w2.heap.size, 1, none⟩ = some (.int .i64 n) by assumption); have gw22 := keepC hb5 (show World.cell? _ ⟨w2.heap.size, 2, none⟩ = some (.string .empty) by assumption); have gw23 := keepC hb5 (show World.cell? _ ⟨w2.heap.size, 3, none⟩ = some (.slice none 0 0) by assumption); have gw24 := keepC hb5 (show World.cell? _ ⟨w2.heap.size, 4, none⟩ = some (.int .i64 0) by assumption); have gw25 := keepC hb5 (show World.cell? _ ⟨w2.heap.size, 5, none⟩ = some (.pointer none) by assumption); have gw26 := keepC hb5 (show World.cell? _ ⟨w2.heap.size, 6, none⟩ = some (.int .i64 0) by assumption); have gw30 := keepC hb5 (show World.cell? _ ⟨w3.heap.size, 0, none⟩ = some (.int .i64 k) by assumption); have gw31 := keepC hb5 (show World.cell? _ ⟨w3.heap.size, 1, none⟩ = some (.int .i64 n) by assumption); have gw32 := keepC hb5 (show World.cell? _ ⟨w3.heap.size, 2, none⟩ = some (.string .empty) by assumption); have gw33 := keepC hb5 (show World.cell? _ ⟨w3.heap.size, 3, none⟩ = some (.slice none 0 0) by assumption); have gw34 := keepC hb5 (show World.cell? _ ⟨w3.heap.size, 4, none⟩ = some (.int .i64 0) by assumption); have gw35 := keepC hb5 (show World.cell? _ ⟨w3.heap.size, 5, none⟩ = some (.pointer none) by assumption); have gw36 := keepC hb5 (show World.cell? _ ⟨w3.heap.size, 6, none⟩ = some (.int .i64 0) by assumption); have gw37 := keepC hb5 (show World.cell? _ ⟨w3.heap.size, 7, none⟩ = some (.int .i64 0) by assumption)) | (go_at_call 19; refine (wrap_any _ _).mono ?_; rintro e w6 ⟨rfl, rfl⟩; first | rw [← HX.out] | rw [HXX.out]) | (go_at_call 20; refine (rwrap_any _ _).mono ?_; rintro e w6 ⟨rfl, rfl⟩; first | rw [← HX.out] | rw [HXX.out]))
  all_goals go_wp2
  all_goals (go_ret; exact ⟨rfl, by first | exact below2 (below2 B4.out hb4) hb5 | exact below2 (below2 (belowD B4.out) hb4) hb5 | exact below2 (below2 (belowD (belowD B4.out)) hb4) hb5⟩)
end Go.Proofs.YtclilpabdcdeoaaDoor
