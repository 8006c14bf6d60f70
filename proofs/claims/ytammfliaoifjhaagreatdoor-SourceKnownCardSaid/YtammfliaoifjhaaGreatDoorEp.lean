import Derived.Test.YtammfliaoifjhaaGreatDoorEo
import Derived.Below
namespace Go.Proofs.YtammfliaoifjhaaGreatDoor
open Go Go.RowKit
set_option linter.unusedVariables false
set_option linter.unusedSimpArgs false
noncomputable section
/-- a program's tables. -/
def eqOkP (P : Program) (t : TypeId) : Bool := ite' (P.stoodInHeld t) false (Bool.not (P.eqGuardType P.depth t))
def eqOkL (P : Program) : List Bool := (List.range P.types.size).map (eqOkP P)
def cxO (P : Program) (g : Nat) (tabs : List (Nat × List Value)) (orc : Tr (List (List Value × Value))) : Cx := ⟨Tr.lay P.types.toList 0 .nil, Tr.lay P.funcs.toList 0 .nil, g, Tr.lay (eqOkL P) 0 .nil, orc, tabs⟩
def cxOf (P : Program) (g : Nat) : Cx := cxO P g [] .nil
def namesOk (P : Program) : Bool := P.funcs.toList.all fun fn => !(fn.name == "runtime.NumGoroutine")
theorem fits_O {P : Program} (g : Nat) (tabs : List (Nat × List Value)) (orc : Tr (List (List Value × Value))) (hn : namesOk P = true) : Fits P (cxO P g tabs orc) := by
  refine ⟨fun t i h => ?_, fun f fn h => ?_, fun t h => ?_⟩
  · change (Tr.lay P.types.toList 0 .nil).get t = some i at h
    rw [Tr.get_lay] at h
    split at h
    · rename_i hh
      have h2 : P.types[t]? = some i := by simpa using h
      show P.toTables.info? t = some i
      unfold Tables.info?
      rw [if_pos (Array.getElem?_eq_some_iff.1 h2).1]
      exact h2
    · cases h
  · change (Tr.lay P.funcs.toList 0 .nil).get f = some fn at h
    rw [Tr.get_lay] at h
    split at h
    · have h2 : P.funcs[f]? = some fn := by simpa using h
      refine ⟨h2, ?_⟩
      have h3 := List.all_eq_true.1 hn fn (by
        have := Array.mem_of_getElem? h2
        simpa using this)
      simpa using h3
    · cases h
  · change (Tr.lay (eqOkL P) 0 .nil).get t = some true at h
    rw [Tr.get_lay] at h
    split at h
    · have h2 : (eqOkL P)[t]? = some true := by simpa using h
      unfold eqOkL at h2
      rw [List.getElem?_map] at h2
      cases hr : (List.range P.types.size)[t]? with
      | none => rw [hr] at h2; cases h2
      | some t2 =>
        have ht : t2 = t := by
          have h4 := List.getElem?_eq_some_iff.1 hr
          obtain ⟨h5, h6⟩ := h4
          rw [List.getElem_range] at h6
          exact h6.symm
        subst ht
        rw [hr] at h2
        simp only [Option.map_some, Option.some.injEq] at h2
        unfold eqOkP at h2
        cases h7 : P.stoodInHeld t2 with
        | true => rw [h7] at h2; cases h2
        | false =>
          rw [h7, ite'_false] at h2
          refine ⟨rfl, ?_⟩
          cases h8 : P.eqGuardType P.depth t2 with
          | true => rw [h8] at h2; cases h2
          | false => rfl
    · cases h
theorem fits_of {P : Program} (g : Nat) (hn : namesOk P = true) : Fits P (cxOf P g) := fits_O g [] .nil hn
theorem orc_nil {P : Program} (g : Nat) : OrOk P (cxOf P g) := fun f l h => by cases h
def isTrue (o : Out) : Bool := match o with
  | .call (.bool true) _ => true
  | _ => false
theorem closed_ok {P : Program} (hn : namesOk P = true) (hm : P.follows .mixedOrders = true) (n : Nat) (f : FuncId) (h : isTrue (evN (cxOf P 0) n (.call f [] ⟨.nil, 0⟩)) = true) (w : World) :
    Calls P f #[] w fun e w' => e = .returned (.bool true) ∧ Below w.heap.size w w' := by
  unfold isTrue at h
  split at h
  · rename_i H' hev
    have hr : HRel ⟨fun _ => 0, fun _ => 0⟩ ⟨.nil, 0⟩ w := ⟨fun b x hx => (by cases hx), fun b x hx => (by cases hx), fun b b' x x' hx => (by cases hx)⟩
    refine (((main_ok (fits_of 0 hn) hm (fun p hp => by cases hp) (orc_nil 0) n).1 f [] _ _ _ hev).2 _ [] w .nil hr (fun g hg => absurd hg (Nat.not_lt_zero _))).mono fun e w' hh => ?_
    obtain ⟨E', v', rfl, g, r, _⟩ := hh
    exact ⟨by rw [r.bool], g.os, g.tape, g.output, g.size, fun i hi => g.frame i hi (fun b x hx => by cases hx)⟩
  · cases h
/-! ### package-level tables that are only read -/
theorem closed_rom {P : Program} (hn : namesOk P = true) (hm : P.follows .mixedOrders = true) (n : Nat) (f : FuncId) (g : Nat) (tabs : List (Nat × List Value)) (h : isTrue (evN (cxOf P g) n (.call f [] ⟨romT tabs, g⟩)) = true)
    (hg : ∀ p ∈ tabs, p.1 < g ∧ plainL p.2 = true) (w : World) (hw : ∀ p ∈ tabs, ∃ e fz, w.heap[p.1]? = some (.cells p.2.toArray e fz)) :
    Calls P f #[] w fun e w' => e = .returned (.bool true) ∧ Below w.heap.size w w' := by
  unfold isTrue at h
  split at h
  · rename_i H' hev
    have hr : HRel ⟨fun b => b, fun _ => 0⟩ ⟨romT tabs, g⟩ w := ⟨fun b x hx => by
        obtain ⟨l, h1, _⟩ := romT_get hx
        exact (hg _ h1).1, fun b x hx => by
        obtain ⟨l, h1, h2⟩ := romT_get hx
        subst h2
        obtain ⟨e, fz, h3⟩ := hw _ h1
        refine ⟨l.toArray, e, fz, h3, fun i v hv => ?_⟩
        exact map_rows (plainL_ok (hg _ h1).2) i v hv, fun b b' x x' _ _ he => he⟩
    refine (((main_ok (fits_of g hn) hm (fun p hp => by cases hp) (orc_nil g) n).1 f [] _ _ _ hev).2 _ [] w .nil hr (fun g' hg' => ⟨rfl, hg'⟩)).mono fun e w' hh => ?_
    obtain ⟨E', v', rfl, gd, r, _⟩ := hh
    exact ⟨by rw [r.bool], gd.os, gd.tape, gd.output, gd.size, fun i hi => gd.frame i hi (fun b x hx hwx => by
      obtain ⟨l, _, h2⟩ := romT_get hx
      subst h2; cases hwx)⟩
  · cases h
/-! ### calls that are known, and what is run with them -/
def orcT (l : List (FuncId × List (List Value × Value))) : Tr (List (List Value × Value)) := List.rec (motive := fun _ => Tr (List (List Value × Value))) .nil (fun p _ ih => ih.put p.1 (some p.2)) l
theorem orcT_ok {P : Program} (g : Nat) (tabs : List (Nat × List Value)) : ∀ {l : List (FuncId × List (List Value × Value))}, (∀ p ∈ l, ∀ q ∈ p.2, OrcOk P g tabs p.1 q.1 q.2) → OrOk P (cxO P g tabs (orcT l))
  | [], _ => fun f l h => by cases h
  | p :: l, h => fun f l2 hf => by
    change ((orcT l).put p.1 (some p.2)).get f = some l2 at hf
    rw [Tr.get_put] at hf
    split at hf
    · rename_i e; subst e; cases hf
      exact fun args v hm => h p (List.mem_cons_self ..) _ hm
    · exact orcT_ok g tabs (fun q hq => h q (List.mem_cons_of_mem _ hq)) f l2 hf
/-- the outcome is this. -/
def isRes (o : Out) (v : Value) : Bool := match o with
  | .call u _ => (match u with
    | .tuple us => (match v with
      | .tuple vs => valsEq us.toList vs.toList
      | _ => false)
    | u => valEq u v)
  | _ => false
theorem isRes_ok {o : Out} {v : Value} (h : isRes o v = true) : ∃ H', o = .call v H' := by
  unfold isRes at h
  split at h
  · split at h
    · split at h
      · rename_i us _ vs
        rw [show us = vs from Array.toList_inj.1 (valsEq_eq h)]
        exact ⟨_, rfl⟩
      · cases h
    · rw [valEq_eq h]; exact ⟨_, rfl⟩
  · cases h
def tabsOk (g : Nat) (tabs : List (Nat × List Value)) : Bool := tabs.all fun p => decide (p.1 < g) && plainL p.2
theorem tabsOk_ok {g : Nat} {tabs : List (Nat × List Value)} (h : tabsOk g tabs = true) : ∀ p ∈ tabs, p.1 < g ∧ plainL p.2 = true := fun p hp => by
  have := List.all_eq_true.1 h p hp
  simpa using this
theorem known_call {P : Program} (hn : namesOk P = true) (hm : P.follows .mixedOrders = true) (g : Nat) (tabs : List (Nat × List Value)) (ht : tabsOk g tabs = true) (orc : Tr (List (List Value × Value))) (hO : OrOk P (cxO P g tabs orc)) (n : Nat) (f : FuncId) (args : List Value) (v : Value) (ha : plainL args = true) (hv : resOk v = true)
    (h : isRes (evN (cxO P g tabs orc) n (.call f args ⟨romT tabs, g⟩)) v = true) : OrcOk P g tabs f args v := by
  obtain ⟨H', hev⟩ := isRes_ok h
  obtain ⟨hfn, hc⟩ := (main_ok (fits_O g tabs orc hn) hm (fun p hp => tabsOk_ok ht p hp) hO n).1 f args _ _ _ hev
  refine ⟨hfn, ha, hv, fun E w hr hg => ?_⟩
  refine (hc E args w (plainL_ok ha) hr (fun g' hg' => ⟨hg g' hg', hg'⟩)).mono fun e w' hh => ?_
  obtain ⟨E', v', rfl, gd, r, _⟩ := hh
  exact ⟨by rw [resOk_eq hv r], gd.os, gd.tape, gd.output, gd.size, fun i hi => gd.frame i hi (fun b x hx hwx => by
      obtain ⟨l, _, h2⟩ := romT_get hx
      subst h2; cases hwx)⟩
theorem OrcOk.closed {P : Program} {g : Nat} {tabs : List (Nat × List Value)} (ht : tabsOk g tabs = true) {f : FuncId} {args : List Value} {v : Value} (h : OrcOk P g tabs f args v) (w : World) (hw : ∀ p ∈ tabs, ∃ e fz, w.heap[p.1]? = some (.cells p.2.toArray e fz)) :
    Calls P f args.toArray w fun e w' => e = .returned v ∧ Below w.heap.size w w' := by
  have hg := tabsOk_ok ht
  refine h.call ⟨fun b => b, fun _ => 0⟩ w ⟨fun b x hx => ?_, fun b x hx => ?_, fun b b' x x' _ _ he => he⟩ fun _ _ => rfl
  · obtain ⟨l, h1, _⟩ := romT_get hx
    exact (hg _ h1).1
  · obtain ⟨l, h1, h2⟩ := romT_get hx
    subst h2
    obtain ⟨e, fz, h3⟩ := hw _ h1
    exact ⟨l.toArray, e, fz, h3, fun i v hv => map_rows (plainL_ok (hg _ h1).2) i v hv⟩
end
end Go.Proofs.YtammfliaoifjhaaGreatDoor
