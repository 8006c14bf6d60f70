import Derived.Test.YtkecnhogooaccaaCalls
namespace Go.Proofs.Ytkecnhogooaccaa
open Go.ChangeShapes Go.WideShapes Go.ChangeAt Go.RowKit
set_option linter.unusedVariables false
theorem box4 (w : World) (a b c d : Value) : (w.alloc (.cells #[a, b, c, d] 71)).cell? ⟨w.heap.size, 0, none⟩ = some a ∧ (w.alloc (.cells #[a, b, c, d] 71)).cell? ⟨w.heap.size, 1, none⟩ = some b ∧ (w.alloc (.cells #[a, b, c, d] 71)).cell? ⟨w.heap.size, 2, none⟩ = some c ∧ (w.alloc (.cells #[a, b, c, d] 71)).cell? ⟨w.heap.size, 3, none⟩ = some d := by
  have := (MapKept.heap_alloc w (Obj.cells #[a, b, c, d] 71)).1
  refine ⟨?_, ?_, ?_, ?_⟩ <;> (unfold World.cell?; rw [this]; rfl)
set_option maxRecDepth 100000 in
set_option maxHeartbeats 2000000 in
theorem place_ok {w : World} {B g room : Nat} {fv wv : Value} {fr : List Fm} {f : Fm} {ws : List Int} {i : Nat} (t : Sk w B g room fv wv (fr ++ [f]) ws) (hi : i < f.slots) :
    Calls Try.prog 39 #[.pointer (some ⟨g, 0, none⟩), .int .i64 i] w fun e w' => e = .returned (.tuple #[.int .i64 ((f.base + i : Nat) : Int), .int .i64 0]) ∧ Below w.heap.size w w' := by
  have T := Lib.hid t
  have hg := t.good
  rw [List.reverse_append] at hg
  have hb : f.base + f.slots ≤ ws.length := hg.1
  have hs : ws.length ≤ 4096 := by have := t.fits; have := t.small; omega
  obtain ⟨bk, cl, bs, sl⟩ := f
  simp only at hi hb ⊢
  obtain ⟨P, hP⟩ : ∃ P : Nat, (bs : Int) + (i : Int) = P := ⟨bs + i, by omega⟩
  have hPe : bs + i = P := by omega
  rw [hPe]
  have hP4 : P ≤ 4096 := by omega
  have d1 := decide_eq_false (show ¬ (i : Int) < 0 by omega)
  have d2 := decide_eq_false (show ¬ (sl : Int) ≤ (i : Int) by omega)
  have d2' := decide_eq_false (show ¬ sl ≤ i by omega)
  clear t hg hPe
  go_enter Try.func39, Try.ntmps39
  go_wp2_with fail
  refine (top_some T.out).mono ?_; rintro e w1 ⟨rfl, hb1⟩
  obtain ⟨y0, y1, y2, y3⟩ := box4 w1 (.int .i64 bk) (.int .i64 cl) (.int .i64 bs) (.int .i64 sl)
  have BB := Lib.hid (bt hb1 (below_alloc w1 (.cells #[.int .i64 bk, .int .i64 cl, .int .i64 bs, .int .i64 sl] 71)))
  clear hb1
  go_wp2
  go_returns
  exact ⟨rfl, BB.out⟩
set_option maxRecDepth 100000 in
set_option maxHeartbeats 2000000 in
theorem added_any {w : World} {B g room : Nat} {fv wv : Value} {fr : List Fm} {f : Fm} {ws : List Int} (t : Sk w B g room fv wv (fr ++ [f]) ws) :
    Calls Try.prog 32 #[.pointer (some ⟨g, 0, none⟩)] w fun e w' => e = .returned (.int .i64 ((ws.length - f.base - f.slots : Nat) : Int)) ∧ Below w.heap.size w w' := by
  have T := Lib.hid t
  have hg := t.good
  rw [List.reverse_append] at hg
  have hb : f.base + f.slots ≤ ws.length := hg.1
  have hs : ws.length ≤ 4096 := by have := t.fits; have := t.small; omega
  obtain ⟨A, c, rfl⟩ := vform t.rw_
  obtain ⟨bk, cl, bs, sl⟩ := f
  simp only at hb ⊢
  obtain ⟨n, hn⟩ : ∃ n, n = ws.length := ⟨_, rfl⟩
  rw [← hn] at hb hs ⊢
  obtain ⟨P, hP⟩ : ∃ P : Nat, (n : Int) - (bs : Int) = P := ⟨n - bs, by omega⟩
  obtain ⟨Q, hQ⟩ : ∃ Q : Nat, (P : Int) - (sl : Int) = Q := ⟨n - bs - sl, by omega⟩
  have hQe : n - bs - sl = Q := by omega
  rw [hQe]
  have hP4 : P ≤ 4096 := by omega
  have hQ4 : Q ≤ 4096 := by omega
  clear t hg hQe
  go_enter Try.func32, Try.ntmps32
  go_wp2_with fail
  refine (top_some T.out).mono ?_; rintro e w1 ⟨rfl, hb1⟩
  obtain ⟨y0, y1, y2, y3⟩ := box4 w1 (.int .i64 bk) (.int .i64 cl) (.int .i64 bs) (.int .i64 sl)
  have tb := T.out.below (bt hb1 (below_alloc w1 (.cells #[.int .i64 bk, .int .i64 cl, .int .i64 bs, .int .i64 sl] 71)))
  have c2 := tb.obj.c2
  rw [← hn] at c2
  have BB := Lib.hid (bt hb1 (below_alloc w1 (.cells #[.int .i64 bk, .int .i64 cl, .int .i64 bs, .int .i64 sl] 71)))
  clear hb1 tb hn
  go_wp2
  go_quiet (fail)
  go_wp2
  go_ret
  exact ⟨rfl, bt BB.out (below_drewN _ _)⟩
end Go.Proofs.Ytkecnhogooaccaa
