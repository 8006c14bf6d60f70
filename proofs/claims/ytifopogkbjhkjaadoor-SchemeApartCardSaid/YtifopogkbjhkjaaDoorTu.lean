import Derived.Test.YtifopogkbjhkjaaDoorTr
namespace Go.Proofs.YtifopogkbjhkjaaDoor
open Go.ChangeShapes Go.WideShapes Go.ChangeAt Go.RowKit Go.WideMaps
set_option linter.unusedVariables false
set_option linter.unusedSimpArgs false
abbrev SubT : TypeId := 50
def varT (n : Int) : TT := .mk 7 ⟨#[]⟩ n []
theorem varT_in (w : World) (P : Nat → Prop) (n : Int) : TIn w P (varT n) (tv (varT n) none 0) := ⟨none, 0, rfl, .inl rfl⟩
/-- a substitution in which nothing stands. -/
def SubE (w : World) (S : Nat) (n : Int) : Prop := w.heap[S]? = some (.cells #[.int .i64 n, .slice none 0 0] SubT (0, 0))
theorem SubE.lt {w : World} {S : Nat} {n : Int} (h : SubE w S n) : S < w.heap.size := (Array.getElem?_eq_some_iff.1 h).1
theorem SubE.below {w w' : World} {S : Nat} {n : Int} (h : SubE w S n) (hb : Below w.heap.size w w') : SubE w' S n := (hb.block S h.lt).trans h
theorem SubE.cells {w : World} {S : Nat} {n : Int} (h : SubE w S n) : w.cell? ⟨S, 0, none⟩ = some (.int .i64 n) ∧ w.cell? ⟨S, 1, none⟩ = some (.slice none 0 0) ∧ w.frozen? ⟨S, 0, none⟩ = false := by
  unfold SubE at h
  refine ⟨?_, ?_, ?_⟩ <;> simp [World.cell?, World.frozen?, h]
theorem new_any (w : World) : Calls Tryd.prog 10 #[] w fun e w' => e = .returned (.pointer (some ⟨w.heap.size, 0, none⟩)) ∧ SubE w' w.heap.size 0 ∧ Below w.heap.size w w' := by
  have h := heap_alloc_new w (.cells #[.int .i64 0, .slice none 0 0] SubT)
  go_enter Tryd.func10, Tryd.ntmps10
  go_wp2
  go_ret
  exact ⟨rfl, h, below_alloc _ _⟩
theorem alloc4 (w : World) : ((w.alloc (.cells #[.int .i64 0, .string ⟨#[]⟩, .int .i64 0, .slice none 0 0] TT24)).heap[w.heap.size]? : Option Obj) = some (.cells #[.int .i64 0, .string ⟨#[]⟩, .int .i64 0, .slice none 0 0] TT24 (0, 0)) := heap_alloc_new _ _
set_option maxRecDepth 100000 in
set_option maxHeartbeats 1000000 in
theorem vlaw_any (n : Int) (w : World) : Calls Tryd.prog 19 #[.int .i64 n] w fun e w' => e = .returned (tv (varT n) none 0) ∧ Below w.heap.size w w' := by
  have hc := heap_alloc_new w (.cells #[.int .i64 7, .string ⟨#[]⟩, .int .i64 n, .slice none 0 0] 24)
  obtain ⟨⟨t0, t1, t2, t3⟩, -, -, -, -⟩ := zero_cells hc
  clear hc
  go_enter Tryd.func19, Tryd.ntmps19
  go_wp2
  (try simp only [Exit.inBlock, Exit.then])
  refine bodyPost_ret (by simp [results, Tryd.results19, go_sem, t0, t1, t2, t3]; try rfl) rfl ?_
  exact ⟨rfl, below_alloc _ _⟩
set_option maxRecDepth 100000 in
set_option maxHeartbeats 1000000 in
theorem variable_any (n : Int) (w : World) : Calls Tryd.prog 38 #[.int .i64 n] w fun e w' => e = .returned (tv (varT n) none 0) ∧ Below w.heap.size w w' := by
  have hc := heap_alloc_new w (.cells #[.int .i64 7, .string ⟨#[]⟩, .int .i64 n, .slice none 0 0] 24)
  obtain ⟨⟨t0, t1, t2, t3⟩, -, -, -, -⟩ := zero_cells hc
  clear hc
  go_enter Tryd.func38, Tryd.ntmps38
  go_wp2
  (try simp only [Exit.inBlock, Exit.then])
  refine bodyPost_ret (by simp [results, Tryd.results38, go_sem, t0, t1, t2, t3]; try rfl) rfl ?_
  exact ⟨rfl, below_alloc _ _⟩
end Go.Proofs.YtifopogkbjhkjaaDoor
