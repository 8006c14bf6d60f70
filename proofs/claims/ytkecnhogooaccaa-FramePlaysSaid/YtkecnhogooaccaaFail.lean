import Derived.Test.YtkecnhogooaccaaPush
namespace Go.Proofs.Ytkecnhogooaccaa
open Go.ChangeShapes Go.WideShapes Go.ChangeAt Go.RowKit
set_option linter.unusedVariables false
set_option maxRecDepth 100000 in
set_option maxHeartbeats 2000000 in
theorem place_none {w : World} {B g room : Nat} {fv wv : Value} {ws : List Int} (i : Int) (t : Sk w B g room fv wv [] ws) :
    Calls Try.prog 39 #[.pointer (some ⟨g, 0, none⟩), .int .i64 i] w fun e w' => e = .returned (.tuple #[.int .i64 0, .int .i64 4]) ∧ Below w.heap.size w w' := by
  have T := Lib.hid t
  clear t
  go_enter Try.func39, Try.ntmps39
  go_wp2_with fail
  refine (top_none T.out).mono ?_; rintro e w1 ⟨rfl, hb1⟩
  have BB := Lib.hid (bt hb1 (below_alloc w1 (.cells #[.int .i64 0, .int .i64 0, .int .i64 0, .int .i64 0] 71)))
  clear hb1
  go_wp2
  go_returns
  exact ⟨rfl, BB.out⟩
set_option maxRecDepth 100000 in
set_option maxHeartbeats 2000000 in
theorem place_bad {w : World} {B g room : Nat} {fv wv : Value} {fr : List Fm} {f : Fm} {ws : List Int} (i : Int) (t : Sk w B g room fv wv (fr ++ [f]) ws) (hi : i < 0 ∨ f.slots ≤ i) :
    Calls Try.prog 39 #[.pointer (some ⟨g, 0, none⟩), .int .i64 i] w fun e w' => e = .returned (.tuple #[.int .i64 0, .int .i64 1]) ∧ Below w.heap.size w w' := by
  have T := Lib.hid t
  obtain ⟨bk, cl, bs, sl⟩ := f
  simp only at hi ⊢
  clear t
  by_cases h0 : i < 0
  · have d1 := decide_eq_true h0
    go_enter Try.func39, Try.ntmps39
    go_wp2_with fail
    refine (top_some T.out).mono ?_; rintro e w1 ⟨rfl, hb1⟩
    obtain ⟨y0, y1, y2, y3⟩ := box4 w1 (.int .i64 bk) (.int .i64 cl) (.int .i64 bs) (.int .i64 sl)
    have BB := Lib.hid (bt hb1 (below_alloc w1 (.cells #[.int .i64 bk, .int .i64 cl, .int .i64 bs, .int .i64 sl] 71)))
    clear hb1
    go_wp2
    go_returns
    exact ⟨rfl, BB.out⟩
  · have d1 := decide_eq_false h0
    have d2 := decide_eq_true (show (sl : Int) ≤ i by omega)
    have hi0 : (0 : Int) ≤ i := by omega
    go_enter Try.func39, Try.ntmps39
    go_wp2_with fail
    refine (top_some T.out).mono ?_; rintro e w1 ⟨rfl, hb1⟩
    obtain ⟨y0, y1, y2, y3⟩ := box4 w1 (.int .i64 bk) (.int .i64 cl) (.int .i64 bs) (.int .i64 sl)
    have BB := Lib.hid (bt hb1 (below_alloc w1 (.cells #[.int .i64 bk, .int .i64 cl, .int .i64 bs, .int .i64 sl] 71)))
    clear hb1
    go_wp2
    go_returns
    exact ⟨rfl, BB.out⟩
set_option maxRecDepth 100000 in
set_option maxHeartbeats 2000000 in
theorem get_fail {w : World} {g : Nat} {i c : Int} (hc : (c == 0) = false) (pl : Calls Try.prog 39 #[.pointer (some ⟨g, 0, none⟩), .int .i64 i] w fun e w' => e = .returned (.tuple #[.int .i64 0, .int .i64 c]) ∧ Below w.heap.size w w') :
    Calls Try.prog 12 #[.pointer (some ⟨g, 0, none⟩), .int .i64 i] w fun e w' => e = .returned (.tuple #[.int .u64 0, .int .i64 c]) ∧ Below w.heap.size w w' := by
  have PL := Lib.hid pl
  clear pl
  go_enter Try.func12, Try.ntmps12
  go_wp2_with fail
  refine PL.out.mono ?_; rintro e w1 ⟨rfl, hb1⟩
  have HB := Lib.hid hb1
  clear hb1
  go_wp2
  go_returns
  exact ⟨rfl, HB.out⟩
set_option maxRecDepth 100000 in
set_option maxHeartbeats 2000000 in
theorem set_fail {w : World} {g : Nat} {i c x : Int} (hc : (c == 0) = false) (pl : Calls Try.prog 39 #[.pointer (some ⟨g, 0, none⟩), .int .i64 i] w fun e w' => e = .returned (.tuple #[.int .i64 0, .int .i64 c]) ∧ Below w.heap.size w w') :
    Calls Try.prog 13 #[.pointer (some ⟨g, 0, none⟩), .int .i64 i, .int .u64 x] w fun e w' => e = .returned (.int .i64 c) ∧ Below w.heap.size w w' := by
  have PL := Lib.hid pl
  clear pl
  go_enter Try.func13, Try.ntmps13
  go_wp2_with fail
  refine PL.out.mono ?_; rintro e w1 ⟨rfl, hb1⟩
  have HB := Lib.hid hb1
  clear hb1
  go_wp2
  go_ret
  exact ⟨rfl, HB.out⟩
set_option maxRecDepth 100000 in
set_option maxHeartbeats 2000000 in
theorem added_none {w : World} {B g room : Nat} {fv wv : Value} {ws : List Int} (t : Sk w B g room fv wv [] ws) :
    Calls Try.prog 32 #[.pointer (some ⟨g, 0, none⟩)] w fun e w' => e = .returned (.int .i64 0) ∧ Below w.heap.size w w' := by
  have T := Lib.hid t
  clear t
  go_enter Try.func32, Try.ntmps32
  go_wp2_with fail
  refine (top_none T.out).mono ?_; rintro e w1 ⟨rfl, hb1⟩
  have BB := Lib.hid (bt hb1 (below_alloc w1 (.cells #[.int .i64 0, .int .i64 0, .int .i64 0, .int .i64 0] 71)))
  clear hb1
  go_wp2
  go_ret
  exact ⟨rfl, BB.out⟩
set_option maxRecDepth 100000 in
set_option maxHeartbeats 2000000 in
theorem take_fail {w : World} {g : Nat} (ad : Calls Try.prog 32 #[.pointer (some ⟨g, 0, none⟩)] w fun e w' => e = .returned (.int .i64 0) ∧ Below w.heap.size w w') :
    Calls Try.prog 25 #[.pointer (some ⟨g, 0, none⟩)] w fun e w' => e = .returned (.tuple #[.int .u64 0, .int .i64 4]) ∧ Below w.heap.size w w' := by
  have PL := Lib.hid ad
  clear ad
  go_enter Try.func25, Try.ntmps25
  go_wp2_with fail
  refine PL.out.mono ?_; rintro e w1 ⟨rfl, hb1⟩
  have HB := Lib.hid hb1
  clear hb1
  go_wp2
  go_returns
  exact ⟨rfl, HB.out⟩
set_option maxRecDepth 100000 in
set_option maxHeartbeats 2000000 in
theorem pop_none {w : World} {B g room : Nat} {fv wv : Value} {ws : List Int} (t : Sk w B g room fv wv [] ws) :
    Calls Try.prog 21 #[.pointer (some ⟨g, 0, none⟩)] w fun e w' => e = .returned (.tuple #[.int .i64 0, .int .i64 0, .int .i64 4]) ∧ Below w.heap.size w w' := by
  have T := Lib.hid t
  clear t
  go_enter Try.func21, Try.ntmps21
  go_wp2_with fail
  refine (top_none T.out).mono ?_; rintro e w1 ⟨rfl, hb1⟩
  have BB := Lib.hid (bt hb1 (below_alloc w1 (.cells #[.int .i64 0, .int .i64 0, .int .i64 0, .int .i64 0] 71)))
  clear hb1
  go_wp2
  go_returns
  exact ⟨rfl, BB.out⟩
set_option maxRecDepth 100000 in
set_option maxHeartbeats 2000000 in
theorem add_none {w : World} {B g room : Nat} {fv wv : Value} {ws : List Int} (x : Int) (t : Sk w B g room fv wv [] ws) :
    Calls Try.prog 10 #[.pointer (some ⟨g, 0, none⟩), .int .u64 x] w fun e w' => e = .returned (.int .i64 4) ∧ Below w.heap.size w w' := by
  have c1 := t.obj.c1
  obtain ⟨A, c, rfl⟩ := vform t.rf
  have e0 : ([] : List Fm).length = 0 := rfl
  rw [e0] at c1
  clear t
  go_enter Try.func10, Try.ntmps10
  go_wp2
  go_ret
  exact ⟨rfl, Below.refl _ _⟩
set_option maxRecDepth 100000 in
set_option maxHeartbeats 2000000 in
theorem add_full {w : World} {B g room : Nat} {fv wv : Value} {fr : List Fm} {f : Fm} {ws : List Int} (x : Int) (t : Sk w B g room fv wv (fr ++ [f]) ws) (hr : room ≤ ws.length + 2 * (fr.length + 1)) :
    Calls Try.prog 10 #[.pointer (some ⟨g, 0, none⟩), .int .u64 x] w fun e w' => e = .returned (.int .i64 9) ∧ Below w.heap.size w w' := by
  have T := Lib.hid t
  have c1 := t.obj.c1
  obtain ⟨gf, cf, rfl⟩ := Go.Joins.ownsRow_form t.rf (by simp)
  obtain ⟨N, hN⟩ : ∃ N, N = (fr ++ [f]).length := ⟨_, rfl⟩
  rw [← hN] at c1
  have hN0 : ((N : Int) == 0) = false := beq_eq_false_iff_ne.2 (by rw [hN]; simp; omega)
  have hN0' : (N == 0) = false := beq_eq_false_iff_ne.2 (by rw [hN]; simp)
  have FREE : Hid (Calls Try.prog 38 #[.pointer (some ⟨g, 0, none⟩)] w fun e w' => e = .returned (.int .i64 0) ∧ Below w.heap.size w w') := Lib.hid ((free_any t).mono (fun e w' ⟨he, hb⟩ => ⟨by rw [he]; congr 2; simp; omega, hb⟩))
  clear t hN hr
  go_enter Try.func10, Try.ntmps10
  go_wp2_with fail
  refine FREE.out.mono ?_; rintro e w1 ⟨rfl, hb1⟩
  have HB := Lib.hid hb1
  clear hb1 FREE
  go_wp2
  go_ret
  exact ⟨rfl, HB.out⟩
set_option maxRecDepth 100000 in
set_option maxHeartbeats 2000000 in
theorem push_neg {w : World} {g : Nat} {bk cl sl : Int} (h : sl < 0) :
    Calls Try.prog 9 #[.pointer (some ⟨g, 0, none⟩), .int .i64 bk, .int .i64 cl, .int .i64 sl] w fun e w' => e = .returned (.int .i64 1) ∧ Below w.heap.size w w' := by
  have d := decide_eq_true h
  clear h
  go_enter Try.func9, Try.ntmps9
  go_wp2
  go_ret
  exact ⟨rfl, Below.refl _ _⟩
set_option maxRecDepth 100000 in
set_option maxHeartbeats 2000000 in
theorem push_full {w : World} {B g room : Nat} {fv wv : Value} {fr : List Fm} {ws : List Int} {bk cl sl : Int} (t : Sk w B g room fv wv fr ws) (h : 0 ≤ sl) (hr : (room : Int) < ws.length + 2 * fr.length + 2 + sl) :
    Calls Try.prog 9 #[.pointer (some ⟨g, 0, none⟩), .int .i64 bk, .int .i64 cl, .int .i64 sl] w fun e w' => e = .returned (.int .i64 9) ∧ Below w.heap.size w w' := by
  have FREE : Hid (Calls Try.prog 38 #[.pointer (some ⟨g, 0, none⟩)] w fun e w' => ∃ F : Nat, e = .returned (.int .i64 (F : Int)) ∧ (F : Int) < sl + 2 ∧ F ≤ 4096 ∧ Below w.heap.size w w') := Lib.hid ((free_any t).mono (fun e w' ⟨he, hb⟩ => ⟨_, he, by have := t.fits; omega, by have := t.small; omega, hb⟩))
  have d0 := decide_eq_false (show ¬ sl < 0 by omega)
  clear t hr
  go_enter Try.func9, Try.ntmps9
  go_wp2_with fail
  refine FREE.out.mono ?_; rintro e w1 ⟨F, rfl, hF, hF4, hb1⟩
  have d1 := decide_eq_true (show (F : Int) - 2 < sl by omega)
  have hl : (-2 : Int) ≤ (F : Int) - 2 := by omega
  have HB := Lib.hid hb1
  clear hb1 FREE
  go_wp2
  go_ret
  exact ⟨rfl, HB.out⟩
end Go.Proofs.Ytkecnhogooaccaa
