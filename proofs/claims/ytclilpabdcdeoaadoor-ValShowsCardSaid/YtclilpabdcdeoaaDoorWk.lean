import Derived.Test.YtclilpabdcdeoaaDoorRing
import Derived.Test.YtclilpabdcdeoaaDoorFmath
import Derived.BigRegion
import Derived.Deep.LoopGhost
import Derived.LaidEqlPtr
namespace Go.Proofs.YtclilpabdcdeoaaDoor
open Go.ChangeShapes Go.WideShapes Go.ChangeAt Go.RowKit
set_option linter.unusedVariables false
/-- one block alone has turned. -/
structure Only (g : Nat) (w w' : World) : Prop where
  os : w'.os = w.os
  tape : w'.tape = w.tape
  output : w'.output = w.output
  size : w'.heap.size = w.heap.size
  block : ∀ k, k ≠ g → w'.heap[k]? = w.heap[k]?
theorem Only.below {g B : Nat} {w w' : World} (h : Only g w w') (hB : B ≤ g) : Below B w w' := ⟨h.os, h.tape, h.output, by rw [h.size]; exact Nat.le_refl _, fun k hk => h.block k (by omega)⟩
/-- the walker. -/
def WkAt (w : World) (g : Nat) (at_ mark : Option Addr) (lf sp : Int) : Prop := w.heap[g]? = some (.cells #[.pointer at_, .pointer mark, .int .i64 lf, .int .i64 sp] 72 (0, 0))
section
variable {w : World} {g : Nat} {a m : Option Addr} {lf sp : Int}
theorem WkAt.c0 (h : WkAt w g a m lf sp) : w.cell? ⟨g, 0, none⟩ = some (.pointer a) := by unfold WkAt at h; simp [World.cell?, h]
theorem WkAt.c1 (h : WkAt w g a m lf sp) : w.cell? ⟨g, 1, none⟩ = some (.pointer m) := by unfold WkAt at h; simp [World.cell?, h]
theorem WkAt.c2 (h : WkAt w g a m lf sp) : w.cell? ⟨g, 2, none⟩ = some (.int .i64 lf) := by unfold WkAt at h; simp [World.cell?, h]
theorem WkAt.c3 (h : WkAt w g a m lf sp) : w.cell? ⟨g, 3, none⟩ = some (.int .i64 sp) := by unfold WkAt at h; simp [World.cell?, h]
theorem WkAt.f (h : WkAt w g a m lf sp) (i : Nat) : w.frozen? ⟨g, i, none⟩ = false := by unfold WkAt at h; simp [World.frozen?, h]
theorem WkAt.lt (h : WkAt w g a m lf sp) : g < w.heap.size := (Array.getElem?_eq_some_iff.1 h).1
theorem WkAt.set0 (h : WkAt w g a m lf sp) (v : Option Addr) : WkAt (w.setCell ⟨g, 0, none⟩ (.pointer v)) g v m lf sp := by unfold WkAt at h ⊢; simp [World.setCell, Array.getElem?_modify, h]
theorem WkAt.set1 (h : WkAt w g a m lf sp) (v : Option Addr) : WkAt (w.setCell ⟨g, 1, none⟩ (.pointer v)) g a v lf sp := by unfold WkAt at h ⊢; simp [World.setCell, Array.getElem?_modify, h]
theorem WkAt.set2 (h : WkAt w g a m lf sp) (v : Int) : WkAt (w.setCell ⟨g, 2, none⟩ (.int .i64 v)) g a m v sp := by unfold WkAt at h ⊢; simp [World.setCell, Array.getElem?_modify, h]
theorem WkAt.set3 (h : WkAt w g a m lf sp) (v : Int) : WkAt (w.setCell ⟨g, 3, none⟩ (.int .i64 v)) g a m lf v := by unfold WkAt at h ⊢; simp [World.setCell, Array.getElem?_modify, h]
end
theorem only_refl (g : Nat) (w : World) : Only g w w := ⟨rfl, rfl, rfl, rfl, fun _ _ => rfl⟩
theorem only_set (g i : Nat) (v : Value) (w : World) : Only g w (w.setCell ⟨g, i, none⟩ v) := ⟨rfl, rfl, rfl, by simp [World.setCell], fun k hk => by simp [World.setCell, Array.getElem?_modify, Ne.symm hk]⟩
theorem Only.trans {g : Nat} {a b c : World} (h : Only g a b) (k : Only g b c) : Only g a c := ⟨k.os.trans h.os, k.tape.trans h.tape, k.output.trans h.output, k.size.trans h.size, fun i hi => (k.block i hi).trans (h.block i hi)⟩
theorem Only.heap {g : Nat} {a b c : World} (h : Only g a b) (e : c.heap = b.heap) (e1 : c.os = b.os) (e2 : c.tape = b.tape) (e3 : c.output = b.output) : Only g a c := ⟨e1.trans h.os, e2.trans h.tape, e3.trans h.output, by rw [e]; exact h.size, fun i hi => by rw [e]; exact h.block i hi⟩
set_option maxRecDepth 100000 in
theorem walk_any (p : Option Addr) (w : World) : Calls Tryd.prog 28 #[.pointer p] w fun e w' => e = .returned (.pointer (some ⟨w.heap.size, 0, none⟩)) ∧ w' = w.alloc (.cells #[.pointer p, .pointer p, .int .i64 1, .int .i64 1] 72) := by
  go_enter Tryd.func28, Tryd.ntmps28
  go_wp2
  go_ret
  exact ⟨rfl, rfl⟩
theorem info30 : ∃ j, Tryd.prog.info? 30 = some j ∧ j.size ≠ 0 := by
  have h : ((Tryd.prog.info? 30).map fun j => decide (j.size ≠ 0)) = some true := by kernel_rfl
  cases hj : Tryd.prog.info? 30 with
  | none => rw [hj] at h; cases h
  | some j => rw [hj] at h; injection h with h; exact ⟨j, rfl, of_decide_eq_true h⟩
theorem eql_nil (a : Addr) (w : World) : (binOp .eql 24 (.pointer none) (.pointer (some a))).run Tryd.prog w = .ok (.bool false) w := by
  have h : ∀ d : Nat, (Op.equalIn (d + 1) 24 (.pointer none) (.pointer (some a))).run Tryd.prog w = .ok false w := fun d => by
    simp [Op.equalIn, run_underlying Tryd.underlying24]
  simp only [binOp]
  simp [Op.equal, Op.maxDepth, h 9999]
theorem eql_other {b c : Nat} {cb cc : Array Value} {tb tc : TypeId} {w : World} (hne : b ≠ c) (hb : w.heap[b]? = some (.cells cb tb (0, 0))) (hc : w.heap[c]? = some (.cells cc tc (0, 0))) :
    (binOp .eql 24 (.pointer (some ⟨b, 0, none⟩)) (.pointer (some ⟨c, 0, none⟩))).run Tryd.prog w = .ok (.bool false) w := by
  obtain ⟨j, hj, hs⟩ := info30
  exact run_eql_ptr_other w Tryd.underlying24 hj hs (by intro e; injection e with e; exact hne e) hb hc
def IsCells (w : World) (b : Nat) : Prop := ∃ c t, w.heap[b]? = some (.cells c t (0, 0))
end Go.Proofs.YtclilpabdcdeoaaDoor
