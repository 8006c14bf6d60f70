import Derived.Test.YtmdlkcppbenamaaDoorEo
import Derived.Below
namespace Go.Proofs.YtmdlkcppbenamaaDoor
open Go Go.RowKit
set_option linter.unusedVariables false
set_option linter.unusedSimpArgs false
noncomputable section
/-- a program's tables. -/
def eqOkP (P : Program) (t : TypeId) : Bool := ite' (P.stoodInHeld t) false (Bool.not (P.eqGuardType P.depth t))
def eqOkL (P : Program) : List Bool := (List.range P.types.size).map (eqOkP P)
def cxOf (P : Program) (g : Nat) : Cx := ⟨Tr.lay P.types.toList 0 .nil, Tr.lay P.funcs.toList 0 .nil, g, Tr.lay (eqOkL P) 0 .nil⟩
def namesOk (P : Program) : Bool := P.funcs.toList.all fun fn => !(fn.name == "runtime.NumGoroutine")
theorem fits_of {P : Program} (g : Nat) (hn : namesOk P = true) : Fits P (cxOf P g) := by
  refine ⟨fun t i h => ?_, fun f fn h => ?_, fun t h => ?_⟩
  · change (Tr.lay P.types.toList 0 .nil).get t = some i at h
    rw [Tr.get_lay] at h
    split at h
    · rename_i hh
      have h2 : P.types[t]? = some i := by simpa using h
      show P.toTables.info? t = some i
      unfold Tables.info?
      rw [if_pos (Array.getElem?_eq_some_iff.1 h2).1]
      exact h2
    · cases h
  · change (Tr.lay P.funcs.toList 0 .nil).get f = some fn at h
    rw [Tr.get_lay] at h
    split at h
    · have h2 : P.funcs[f]? = some fn := by simpa using h
      refine ⟨h2, ?_⟩
      have h3 := List.all_eq_true.1 hn fn (by
        have := Array.mem_of_getElem? h2
        simpa using this)
      simpa using h3
    · cases h
  · change (Tr.lay (eqOkL P) 0 .nil).get t = some true at h
    rw [Tr.get_lay] at h
    split at h
    · have h2 : (eqOkL P)[t]? = some true := by simpa using h
      unfold eqOkL at h2
      rw [List.getElem?_map] at h2
      cases hr : (List.range P.types.size)[t]? with
      | none => rw [hr] at h2; cases h2
      | some t2 =>
        have ht : t2 = t := by
          have h4 := List.getElem?_eq_some_iff.1 hr
          obtain ⟨h5, h6⟩ := h4
          rw [List.getElem_range] at h6
          exact h6.symm
        subst ht
        rw [hr] at h2
        simp only [Option.map_some, Option.some.injEq] at h2
        unfold eqOkP at h2
        cases h7 : P.stoodInHeld t2 with
        | true => rw [h7] at h2; cases h2
        | false =>
          rw [h7, ite'_false] at h2
          refine ⟨rfl, ?_⟩
          cases h8 : P.eqGuardType P.depth t2 with
          | true => rw [h8] at h2; cases h2
          | false => rfl
    · cases h
def isTrue (o : Out) : Bool := match o with
  | .call (.bool true) _ => true
  | _ => false
theorem closed_ok {P : Program} (hn : namesOk P = true) (hm : P.follows .mixedOrders = true) (n : Nat) (f : FuncId) (h : isTrue (evN (cxOf P 0) n (.call f [] ⟨.nil, 0⟩)) = true) (w : World) :
    Calls P f #[] w fun e w' => e = .returned (.bool true) ∧ Below w.heap.size w w' := by
  unfold isTrue at h
  split at h
  · rename_i H' hev
    have hr : HRel ⟨fun _ => 0, fun _ => 0⟩ ⟨.nil, 0⟩ w := ⟨fun b x hx => (by cases hx), fun b x hx => (by cases hx), fun b b' x x' hx => (by cases hx)⟩
    refine (((main_ok (fits_of 0 hn) hm n).1 f [] _ _ _ hev).2 _ [] w .nil hr (fun g hg => absurd hg (Nat.not_lt_zero _))).mono fun e w' hh => ?_
    obtain ⟨E', v', rfl, g, r, _⟩ := hh
    exact ⟨by rw [r.bool], g.os, g.tape, g.output, g.size, fun i hi => g.frame i hi (fun b x hx => by cases hx)⟩
  · cases h
/-! ### package-level tables that are only read -/
def romT (tabs : List (Nat × List Value)) : Tr Blk := List.rec (motive := fun _ => Tr Blk) .nil (fun p _ ih => ih.put p.1 (some (.rom (Tr.lay p.2 0 .nil)))) tabs
theorem romT_get : ∀ {tabs : List (Nat × List Value)} {b : Nat} {x : Blk}, (romT tabs).get b = some x → ∃ l, (b, l) ∈ tabs ∧ x = .rom (Tr.lay l 0 .nil)
  | [], b, x, h => by cases h
  | p :: tabs, b, x, h => by
    change ((romT tabs).put p.1 (some (.rom (Tr.lay p.2 0 .nil)))).get b = some x at h
    rw [Tr.get_put] at h
    split at h
    · rename_i e; subst e; cases h
      exact ⟨p.2, List.mem_cons_self .., rfl⟩
    · obtain ⟨l, h1, h2⟩ := romT_get h
      exact ⟨l, List.mem_cons_of_mem _ h1, h2⟩
theorem closed_rom {P : Program} (hn : namesOk P = true) (hm : P.follows .mixedOrders = true) (n : Nat) (f : FuncId) (g : Nat) (tabs : List (Nat × List Value)) (h : isTrue (evN (cxOf P g) n (.call f [] ⟨romT tabs, g⟩)) = true)
    (hg : ∀ p ∈ tabs, p.1 < g ∧ plainL p.2 = true) (w : World) (hw : ∀ p ∈ tabs, ∃ e fz, w.heap[p.1]? = some (.cells p.2.toArray e fz)) :
    Calls P f #[] w fun e w' => e = .returned (.bool true) ∧ Below w.heap.size w w' := by
  unfold isTrue at h
  split at h
  · rename_i H' hev
    have hr : HRel ⟨fun b => b, fun _ => 0⟩ ⟨romT tabs, g⟩ w := ⟨fun b x hx => by
        obtain ⟨l, h1, _⟩ := romT_get hx
        exact (hg _ h1).1, fun b x hx => by
        obtain ⟨l, h1, h2⟩ := romT_get hx
        subst h2
        obtain ⟨e, fz, h3⟩ := hw _ h1
        refine ⟨l.toArray, e, fz, h3, fun i v hv => ?_⟩
        exact map_rows (plainL_ok (hg _ h1).2) i v hv, fun b b' x x' _ _ he => he⟩
    refine (((main_ok (fits_of g hn) hm n).1 f [] _ _ _ hev).2 _ [] w .nil hr (fun g' hg' => ⟨rfl, hg'⟩)).mono fun e w' hh => ?_
    obtain ⟨E', v', rfl, gd, r, _⟩ := hh
    exact ⟨by rw [r.bool], gd.os, gd.tape, gd.output, gd.size, fun i hi => gd.frame i hi (fun b x hx hwx => by
      obtain ⟨l, _, h2⟩ := romT_get hx
      subst h2; cases hwx)⟩
  · cases h
end
end Go.Proofs.YtmdlkcppbenamaaDoor
